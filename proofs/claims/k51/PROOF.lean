import PyProof.Rows.All
import Wide.All
import OpenK.AllK
import Wide.FinOn
import PySem.Challenge.RW_tiewebs_k51_claws_and_odd_threes
import Lean
import PyProof.EqAt
import PyProof.EqKinds
import PyProof.TupleCall
import PyProof.SetScanFacts
import PyProof.EnumMake
import PyProof.Draws
import PyProof.ExcInit
import PyProof.ExcClass3
import PyProof.InstStore
import KE.KUnpack
import PyProof.P3In
set_option Elab.async false
set_option compiler.extract_closed false
set_option linter.all false
set_option maxRecDepth 100000
set_option maxHeartbeats 8000000
noncomputable section
open Option renaming some->ar,map_some->E_
open PySem renaming Value->aC,Addr->bc,Shared->b_,starEach->dV,Program->eb,wpAny->ed,World->eK,model->fb,FuncData->fg,Heap->f',mainGlobals->gd,Around->gg,foldedSetIterable->g_,eval->hO,compareOp->kr,cellsFrom->lx,importedModules->ly,bootBuiltins->lz,IsTupleKey->l_,behindInMarks->mh,assignEach->m1,swapsWith->m_,SetTable->nC,rawInt->n0,NameKind->oo,intKind->o_,PyData->p4,Stmt->p_,attributeBase->ra,IsPair->rn,codeAny->t_,binaryOp->u0,cLine->u3,backTo->wd,builtinsNs->y4,sliceBounds->y8,holding->y',callerA->z4,pyNext->A',letOwnedTupleGo->F0,noteFrame->J_,firstArgMember->L_,standAt->M',BindsTo->N_,ofAClassStatement->O_,Params->O',swapsWithSole->P_,swappedStores->QO,treeTable->Ri,Arguments->RL,codeAmong->RM,checkBuiltinCall->RN,IsZip->RO,assign->RQ,GenState->RW,pyIter->RY,again->RZ,OsState->R5,PassesOwn->R9,leaving->R_,assignInOrder->Se,seq_tuple_add->Sg,eval_ListComp->Sh,IsPart->Sl,bindName->Sn,concat_meets->So,getItem->Sr,compTurn->Sv,lastMarks->SC,seqIndex?->SD,isSubtype->SH,pickOrder->SJ,seqIndex_of->SN,hashByValue->SQ,field->SU,wpAny_letGo->SV,Keyword->SZ,sysModules->S8,Model->S9,wpAny_Name->S_,bindArgs->Ta,bindL->Tb,bindC->Tc,typeIs_int->Td,closureFor->Tf,setsByText->To,ZipApart->Tp,CmpOp->Tt,TriplesOk->Tz,seqItems?->TB,onTheHeap->TF,Result->TH,compPost->TR,entryFor->TY,slotArgs->TZ,DefRec->T5,argsOk->T8,newExc->T9,setItem->Ua,newList->Ue,collect->Ug
open Pure renaming pure->a_
open Bool renaming true->cn,false->dt,false_eq_true->e_,and_eq_true->k',not_true->y1,or_eq_true->y2,not_eq_true'->z_,and_false->RV,and_self->Sj
open PySem.W renaming Frag->c_,tabIn->n7,kitOne->sb,kas_place->u5,kas_asc->vr,kas_desc->wh,kas_rev->w6,kas_sort->x_,openSeen->y9,openGood->y_,keepIn->z3,nsIn->z5,tabObj->z6,fnOf->A_,kla_obj->B_,findIn->G_,boot_heap->I_,behindTheImports->Rb,InstAt->Rn,kmHook->RX,findIn->R0,codeIn->R1,CodeHd->R4,kas_bin->Sa,kas_descPart->Su,kas_count->SF,methodObj->SM,kitAny->Tg,instObj->Tr,OpenLaw->Tv,kas_tail3->Tw,mroIn->TC,excIn->TK,lookIn->TQ,exmOne->T2,kla_fn->T3,noTabs->T4,KasT->T6,OpenLaw->Ub,WalkO->Uc,findObj->Uh,clsIn->Ui,Frag->Uk
open List renaming range->d_,replicate->ey,not_mem_nil->fc,mem_cons->gc,lookup_cons->m2,range'->n3,getD_eq_getElem?_getD->pz,length_cons->r7,size_toArray->u',all_eq_true->A2,map->EA,mem_append->EW,toArray->H_,zip_cons_cons->J',zipIdx_cons->RP,length_nil->RT,forIn_cons->RU,map_cons->Sd,all_cons->Si,map_id->SX,foldl->Te
open PySem.Value renaming ref->ee,none->h_,int->r_,bool->v_,type->y3,builtin->D_,str->R8,float->SL
open PySem.SetTable renaming insertAt->er,below->x',fresh->LI,turns->L0,below->R3,runEnd->Ti,advance->TJ,bits->TU,turns->TV
open PySem.PyData renaming eqv->f_,depthAll->mv,int->pa,eqvAll->u_,list->wG,tuple->I0,bool->SY
open PySem.NameKind renaming free->hY,cell->ri
open PySem.Str renaming ofString->i_
open False renaming elim->j_
open PySem.Builtin.SmallTypes renaming nextOf->j',ownedTupleIsFree->mu
open Ne renaming symm->k_
open PySem.Obj renaming mapSeq->n_,mapFields->C_,putSet->RS
open PyProof.Rows renaming IntsAre->pb,seqObj->w_,AllBare->B',envOfC->F_,IsTup->Tq,bubble->T7,Call_->Uj
open PySem.Builtin.Slice renaming slicePlaces->p0,sliceAdjust->w8
open True renaming intro->q0
open PySem.Builtin.Tuple renaming tupleExact->q_
open PySem.Builtin.List renaming listTooLong->rb
open PySem.Heap renaming SameBut->s_,IsTuple->Sy,ExtBut->SR
open Array renaming replicate->u4,mk->D',length_toList->G',getD->Tn
open Or renaming inr->y7,inl->K_
open ForInStep renaming yield->G2
open List.Perm renaming cons->K'
open Int renaming toNat_natCast->M_
open PySem.SetTable.layClean renaming free->Q_
open Sum renaming inl->R6,inr->R7
open PySem.Shared renaming TypeIs->Sk,heap->SW
open PySem.W.KasT renaming ret->Ss
open Nat renaming pow_succ->Sw
open PySem.pickOrder renaming go->Sx
open PyProof.Rows.IsTup renaming new->Sz
open And renaming intro->SK
open PySem.Walks renaming list->Th
open PySem.SetTable.below renaming go->Tj
open LawfulBEq renaming eq_of_beq->Tu
open PySem.W.Hook renaming obs->TL,val->TN
open PySem.SetTable.probe renaming go->TX
open PySem.SeqAt renaming readOf->T_
open ForIn renaming forIn->Ud
abbrev Nk:=@PySem.wpAny_bind
abbrev Nl:=@List.length_map
abbrev Nm:=@PySem.Heap.get?_push_of_some
abbrev Nn:=@List.length_append
abbrev Np:=@List.getElem?_eq_getElem
abbrev Nq:=@Nat.le_refl
abbrev Nr:=@PySem.wpAny_pure
abbrev Nt:=@List.getElem?_eq_some_iff
abbrev Nu:=@PySem.Heap.lt_size
abbrev Nv:=@Nat.le_trans
abbrev Nw:=@PySem.Heap.get?_push_size
abbrev Nx:=@List.mem_cons_of_mem
abbrev Ny:=@pz
abbrev Nz:=@Array.getElem?_eq_getElem
abbrev NA:=@u'
abbrev NB:=@Nat.ne_of_lt
abbrev NC:=@Nat.lt_of_lt_of_le
abbrev ND:=@List.append_assoc
abbrev NF:=@List.mem_cons_self
abbrev NG:=@List.mem_append_right
abbrev NH:=@Sd
abbrev NI:=@decide_eq_true
abbrev NJ:=@gc
abbrev NK:=@List.map_map
abbrev NL:=@List.mem_map
abbrev NM:=@List.getElem?_map
abbrev NN:=@Nat.zero_le
abbrev NO:=@List.getElem?_set_self
abbrev NP:=@Option.some.inj
abbrev NQ:=@Array.getElem?_eq_some_iff
abbrev NR:=@List.mem_range
abbrev NS:=@List.length_range
abbrev NT:=@List.append_nil
abbrev NU:=@r7
abbrev NV:=@decide_eq_true_eq
abbrev NW:=@Array.getElem?_toList
abbrev NX:=@List.map_append
abbrev NY:=@List.flatMap_cons
abbrev NZ:=@List.getElem?_append_left
abbrev N0:=@congrFun
abbrev N1:=@PySem.W.mg_none_of
abbrev N4:=@List.mem_of_getElem?
abbrev N5:=@M_
abbrev N6:=@A2
abbrev N7:=@decide_eq_false
abbrev N8:=@Array.getD_eq_getD_getElem?
abbrev N9:=@PySem.Heap.get?_update_other
abbrev Oa:=@PySem.PassesOwn.never
abbrev Ob:=@List.length_filter_le
abbrev Oc:=@PySem.wpAny_mono
abbrev Od:=@PySem.wpAny_newObj_type
abbrev Oe:=@m2
abbrev Of:=@List.pairwise_cons
abbrev Og:=@List.mem_singleton
abbrev Oh:=@List.filterMap_cons
abbrev Oi:=@PySem.wpAny_holding
abbrev Oj:=@EW
abbrev Ol:=@List.nodup_cons
abbrev Om:=@of_decide_eq_true
abbrev On:=@List.replicate_succ
abbrev Oo:=@List.filter_cons_of_neg
abbrev Oq:=@PySem.W.kia_one
abbrev Os:=@PySem.wpAny_call_entry
abbrev Ot:=@List.getElem_mem
abbrev Ou:=@List.getElem?_set_ne
abbrev Ov:=@List.map_nil
abbrev Ow:=@PySem.wpAny_field
abbrev Ox:=@PySem.Heap.get?_update_self
abbrev Oy:=@List.getElem?_eq_none
abbrev Oz:=@List.length_take
abbrev OA:=@k'
abbrev OB:=@PySem.Heap.size_push
abbrev OC:=@Nat.lt_succ_of_lt
abbrev OD:=@Bool.false_ne_true
abbrev OE:=@List.mem_filter
abbrev OF:=@Bool.true_and
abbrev OG:=@PySem.wpAny_truthy_bool
abbrev OH:=@PyProof.Rows.callWith_type1
abbrev OI:=@PySem.sizeLine_eq
abbrev OJ:=@PySem.W.kia_tup
abbrev OK:=@List.filter_cons_of_pos
abbrev OL:=@List.mem_append_left
abbrev OM:=@List.drop_eq_nil_of_le
abbrev ON:=@Array.getElem?_eq_none
abbrev OO:=@PyProof.Rows.slot_tuple_getitem
abbrev OP:=@List.mem_range'_1
abbrev OQ:=@PySem.wpAny_setState_of
abbrev OR:=@PySem.Heap.SameBut.update
abbrev OS:=@Bool.false_and
abbrev OT:=@PySem.wpAny_seqItems
abbrev OU:=@Bool.eq_iff_iff
abbrev OV:=@List.mem_filterMap
abbrev OW:=@PySem.wpAny_pyIter_tuple
abbrev OX:=@Option.isSome_iff_exists
abbrev OY:=@PySem.Obj.data_mapFields
abbrev OZ:=@PySem.Heap.get?_none_of_le
abbrev O0:=@Nat.lt_irrefl
abbrev O1:=@Nat.le_of_lt
abbrev O2:=@Nat.ne_of_gt
abbrev O3:=@List.flatten_cons
abbrev O4:=@List.filter_congr
abbrev O5:=@List.nil_append
abbrev O6:=@List.map_congr_left
abbrev O7:=@Nat.pow_le_pow_left
abbrev O8:=@PySem.F.slot_tuple_iterator_next
abbrev O9:=@List.length_drop
abbrev Pa:=@PySem.wpAny_standAt
abbrev Pb:=@List.getElem?_toArray
abbrev Pc:=@PySem.wpAny_setField_rec
abbrev Pd:=@List.drop_eq_getElem_cons
abbrev Pe:=@PySem.Around.under_plainId
abbrev Pf:=@Bool.and_eq_true_iff
abbrev Pg:=@PySem.wpAny_passesOwn
abbrev Ph:=@PySem.AutoSeq1.wpAny_loadPart'
abbrev Pi:=@List.range'_eq_map_range
abbrev Pj:=@Int.zero_add
abbrev Pk:=@PySem.mem_of_lookup
abbrev Pl:=@G'
abbrev Pm:=@List.mem_map_of_mem
abbrev Pn:=@List.Perm.nodup_iff
abbrev Po:=@Nat.lt_succ_self
abbrev Pp:=@Nat.le_add_right
abbrev Pq:=@PySem.wpAny_askSetting
abbrev Pr:=@PySem.wpAny_isInstance
abbrev Pu:=@Option.bind_some
abbrev Pw:=@List.map_flatMap
abbrev Px:=@List.flatMap_nil
abbrev Py:=@PySem.wpAny_setField
abbrev Pz:=@PySem.Heap.size_after_update
abbrev PB:=@List.take_of_length_le
abbrev PC:=@PySem.wpAny_Call_Name_kw
abbrev PD:=@Int.emod_lt_of_pos
abbrev PF:=@List.length_range'
abbrev PH:=@List.countP_eq_length_filter
abbrev PJ:=@PySem.wpAny_execs_nil
abbrev PK:=@PySem.codeAny_mono
abbrev PL:=@Nat.succ_mul
abbrev PM:=@Nat.min_le_left
abbrev PN:=@List.mem_iff_getElem?
abbrev PP:=@PySem.codeAny_builtin
abbrev PQ:=@PySem.Obj.isFreed_of_fields
abbrev PR:=@PySem.wpAny_attempt
abbrev PU:=@PySem.W.mg_of
abbrev PV:=@List.getElem?_append_right
abbrev PX:=@List.perm_ext_iff_of_nodup
abbrev PY:=@List.getElem?_zip_eq_some
abbrev PZ:=@PySem.wpAny_execs_cons
abbrev P0:=@Nat.succ_le_succ
abbrev P1:=@Bool.not_eq_true
abbrev P2:=@decide_eq_decide
abbrev P3:=@Nat.le_succ
abbrev P4:=@List.getElem?_range
abbrev P5:=@List.filter_sublist
abbrev P6:=@PySem.wpAny_rule
abbrev P7:=@PySem.F.args_tuple_add_2
abbrev P8:=@Nat.le_of_eq
abbrev P9:=@beq_iff_eq
abbrev Qa:=@List.of_mem_zip
abbrev Qb:=@J'
abbrev Qc:=@PySem.F.entry_tuple_add
abbrev Qd:=@List.length_set
abbrev Qe:=@Array.Perm.refl
abbrev Qf:=@Nat.lt_of_le_of_lt
abbrev Qg:=@PySem.F.plainAttrs_list
abbrev Qh:=@Int.emod_nonneg
abbrev Qi:=@PyProof.Rows.F.plain_set_update_loop
abbrev Qj:=@List.getElem?_take
abbrev Qk:=@List.countP_map
abbrev Ql:=@List.filter_filter
abbrev Qm:=@PySem.W.cellsFrom_some
abbrev Qn:=@PySem.F.slot_tuple_add
abbrev Qo:=@List.range_succ_eq_map
abbrev Qp:=@PySem.wpAny_pyIter_list
abbrev Qq:=@PySem.W.kitx_list
abbrev Qs:=@PySem.W.kitx_dict
abbrev Qt:=@Nat.le_of_succ_le
abbrev Qu:=@List.ext_getElem?
abbrev Qv:=@Prod.ext
abbrev Qw:=@PySem.isSubtype_type
abbrev Qx:=@PySem.isSubtype_stop
abbrev Qy:=@PySem.wpAny_typeOf
abbrev Qz:=@List.length_singleton
abbrev QA:=@List.all_map
abbrev QB:=@PySem.builtinLookup_eq_fast
abbrev QC:=@PySem.wpAny_forIn_list
abbrev QD:=@PySem.wpAny_pyIter_zip
abbrev QE:=@List.mem_flatMap
abbrev QF:=@List.any_eq_true
abbrev QG:=@Array.mem_toList_iff
abbrev QH:=@PySem.Calls.evalArgs_plain
abbrev QI:=@List.range_eq_range'
abbrev QJ:=@PySem.wpAny_updateSeq_pair
abbrev QK:=@List.mem_of_mem_drop
abbrev QL:=@congrArg
abbrev QM:=@PySem.F.args_tuple_iterator_next_1
abbrev QN:=@PySem.call_meets
abbrev QP:=@PySem.wpAny_setEntries_of
abbrev QQ:=@PySem.Heap.get?_update_ne
abbrev QR:=@PySem.F.entry_tuple_iterator_next
abbrev QS:=@PySem.F.slot_zip_next
abbrev QT:=@List.filter_flatMap
abbrev QU:=@PySem.Calls.Name_function_global
abbrev QV:=@List.length_eraseIdx_of_lt
abbrev QW:=@PySem.F.excBase_ValueError
abbrev QX:=@PyProof.Rows.assignInOrder_cons
abbrev QY:=@Nat.lt_trans
abbrev QZ:=@List.getElem?_drop
abbrev Q0:=@Classical.byContradiction
abbrev Q3:=@List.mem_of_find?_eq_some
abbrev Q4:=@List.pairwise_iff_getElem
abbrev Q5:=@PySem.wpAny_letOwnedTupleGo_zip
abbrev Q6:=@PySem.W.kitx_none
abbrev Q7:=@PySem.Calls.spliced_nil
abbrev Q8:=@PySem.wpAny_call
abbrev Q9:=@List.getElem?_take_of_lt
abbrev Ra:=@PyProof.Rows.intsAre_of
abbrev Rc:=@List.nodup_append
abbrev Re:=@PySem.F.slot_list_append
abbrev Rf:=@PySem.F.type_list_append
abbrev Rg:=@Nat.mod_lt
abbrev Rh:=@Nat.lt_trichotomy
abbrev Rj:=@Bool.eq_false_iff
abbrev Rk:=@Array.getElem?_replicate
abbrev Rl:=@PySem.Obj.cls_mapFields
abbrev Rm:=@PySem.wpAny_pyIter_enum
abbrev Ro:=@PySem.plainId_quiet
abbrev Rp:=@PySem.wpAny_onRaise
abbrev Rq:=@List.any_cons
abbrev Rr:=@List.pairwise_singleton
abbrev Rt:=@decide_eq_false_iff_not
abbrev Ru:=@PySem.wpAny_eqBool_int
abbrev Rv:=@PySem.noFill_tuple_add
abbrev Rw:=@Nat.le_of_not_lt
abbrev Rx:=@Nat.succ_ne_self
abbrev Ry:=@Nat.not_lt_zero
abbrev Rz:=@PySem.pushCells_keeps
abbrev RA:=@PySem.codeAny_of_tree
abbrev RB:=@PySem.typeLookup_type
abbrev RC:=@List.length_zip
abbrev RD:=@List.filter_map
abbrev RE:=@y2
abbrev RF:=@Nat.not_lt
abbrev RG:=@PySem.wpAny_Expr_any
abbrev RH:=@List.drop_zero
abbrev RI:=@RV
abbrev RJ:=@List.take_left
abbrev RK:=@PySem.wpAny_of_eq
namespace KH
open PySem PySem.W PySem.Spec PyProof.Rows
def tp(i:Nat):Stmt:=PySem.Challenge.pw_tiewebs_k51_claws_and_odd_threes.main.body.getD i (.Pass ⟨0,0,0,0⟩)
def iC:p_->p_
 | .ClassDef _ _ _ (b::_) .. =>b
 |s=>s
def dA(s:p_):Arguments:=match s with
 | .FunctionDef _ a _ _ _ _ _ _ _ _=>a
 |_=>{posonlyargs:=[],args:=[],vararg:=none,kwonlyargs:=[],kw_defaults:=[],kwarg:=none,defaults:=[]}
def dB(s:p_):List Stmt:=match s with
 | .FunctionDef _ _ b _ _ _ _ _ _ _=>b
 |_=>[]
def dS(s:p_):Scope:=match s with
 | .FunctionDef _ _ _ _ _ _ sc _ _ _=>sc
 |_=>{kind:=.function,names:=[],isGenerator:=dt,isCoroutine:=dt}
def zs(x:String)(t:Nat):Value:=.str (i_ x) t
def ze(P:O')(x:String)(t:Nat)(v:aC):DictEntry:=⟨PyData.keyHash P (i_ x),zs x t,v⟩
def zt(xs:Array aC):Obj:=⟨.type "tuple",none,.seq xs, #[]⟩
def zc(n q:String)(a:Nat)(l ac p5 p6 fl:Int)(r8:aC)(p10:Int)(r11 r13 r14 r15:aC)(p16:Int)(t:Nat):Obj:=⟨.type "code",none,.fields #[zs n a,zs q (a+1),zs "/claim/cut.py" (a+2),.int l 0,.int ac 0,.int p5 0,.int p6 0,.int fl 0,r8,.bool cn,.int p10 0,r11,.none,r13,r14,r15,.int p16 0,.int l 0,zs "/claim/cut.py" t], #[]⟩
def zf(n q:String)(st:p_)(kV dc pm:aC)(an:Option bc)(cd ct:aC):Data:=.func (A_ (i_ n) (i_ q) (dA st) (dB st) (dS st) .none kV dc pm an cd ct)
def zg(n q:String)(st:p_):Obj:=⟨.none,none,.func {name:=i_ n,qualname:=i_ q,params:=dA st,body:=.stmts (dB st),scope:=dS st,globals:=0,closure:=[],defaults:=.none,kwdefaults:=.none}, #[]⟩
def z0:Obj:=⟨.none,none,.fields #[],#[]⟩
def zp:Obj:=⟨.type "builtin_function_or_method",none,.fields #[.builtin "type.__prepare__",.type "type"],#[]⟩
def zu(a:Nat):Obj:=⟨.type "super",none,.fields #[.ref a,.ref a,.ref a],#[]⟩
def zi(a:Nat):Obj:=⟨.type "builtin_function_or_method",none,.fields #[.builtin "object.__init_subclass__",.ref a],#[]⟩
def zr(a b:Nat)(v:aC):Obj:=⟨.type "frame",none,.plain,#[ar (.ref a),ar (.ref 3),ar (.ref b),none,ar v,none,ar (.ref 0)]⟩
def zk(n:String)(a b c:Nat)(l:Int)(r:Nat)(m:Int)(s:Nat)(x y:Int)(t:Nat):Obj:=⟨.type "code",none,.fields #[zs n a,zs n b,zs "/claim/cut.py" c,.int l 0,.int 0 0,.int 0 0,.int 0 0,.int 0 0,.ref r,.bool dt,.int m 0,.ref s,.none,.none,.none,.none,.int x 0,.int y 0,zs "/claim/cut.py" t],#[]⟩
def zE(n:String)(i x a:Nat)(l ac fl:Int)(md:String)(m t:Nat):List Obj:=[zt #[],z0,zg n n (tp i),zc n n a l ac 0 0 fl (.ref x) 181 (.ref (x+1)) .none .none (.ref (x+2)) t (t+1),⟨.type "function",none,zf n n (tp i) .none .none (zs md m) none (.ref (x+3)) .none,#[]⟩]
def zD(n:String)(i x a:Nat)(l ac fl:Int)(v:Array aC)(md:String)(m t:Nat):List Obj:=[zt #[],z0,zt v,zt #[],zg n n (tp i),zc n n a l ac 0 0 fl (.ref x) 181 (.ref (x+1)) (.ref (x+2)) (.ref (x+3)) (.ref (x+4)) t (t+1),⟨.type "function",none,zf n n (tp i) .none .none (zs md m) none (.ref (x+5)) .none,#[]⟩]
def zC(P:O')(n:String)(a t l:Nat):List Obj:=[zp,⟨(.type "dict"),none,(.dict #[ze P "__module__" (t+5) (zs "tiewebs.errors" 187),ze P "__qualname__" (t+7) (zs n (t+6)),ze P "__firstlineno__" (t+9) (.int l (t+8)),ze P "__static_attributes__" (t+10) (.ref (a+6))] 4),#[]⟩,zt #[],z0,zk n t (t+1) (t+2) l (a+2) 181 (a+3) (t+3) l (t+4),zr (a+4) (a+1) (zs "tiewebs.errors" 187),zt #[],⟨(.type "dict"),none,(.dict #[ze P "__module__" (t+5) (zs "tiewebs.errors" 187),ze P "__firstlineno__" (t+9) (.int l (t+8)),ze P "__static_attributes__" (t+10) (.ref (a+6)),ze P "__doc__" (t+11) .none] 2),#[]⟩,⟨(.type "type"),none,(.cls ⟨(i_ n),[(.ref 24)],[(.ref (a+8)),(.ref 24),(.type "ValueError"),(.type "Exception"),(.type "BaseException"),(.type "object")],(a+7),(i_ n),cn,[],[],dt,none,dt⟩),#[ar (.ref (a-1)),none,ar (zs n (t-2)),ar (zs n (t+6)),ar (.builtin "ValueError.__new__"),ar (.bool cn)]⟩,zu (a+8),zi (a+8),zt #[(.ref 24)]]
def ml:String:="law_tiewebs_k51_claws_and_odd_threes"
def L1(P:O'):List Obj:=[boot_o_0 P,boot_o_1 P,boot_o_2 P,⟨(.type "dict"),none,(.dict #[ze P "__name__" 165 (zs ml 567),ze P "__doc__" 166 .none,ze P "__package__" 167 .none,ze P "__loader__" 168 (.builtin "__main__.__loader__#opaque"),ze P "__spec__" 169 .none,ze P "__annotations__" 170 (.ref 6),ze P "__builtins__" 171 (.ref 4),ze P "__file__" 173 (zs "/claim/cut.py" 172),ze P "__cached__" 174 .none,ze P "WebError" 206 (.ref 24),ze P "NoWeb" 222 (.ref 37),ze P "NoPlace" 238 (.ref 49),ze P "NoPlaces" 254 (.ref 61),ze P "NoMap" 270 (.ref 73),ze P "NoSharing" 286 (.ref 85),ze P "NoRoot" 302 (.ref 97),ze P "NoNumber" 318 (.ref 109),ze P "NotJoined" 334 (.ref 121),ze P "NoTie" 350 (.ref 133),ze P "NoText" 366 (.ref 145),ze P "NoLine" 382 (.ref 157),ze P "NoDeed" 398 (.ref 169),ze P "TooGreat" 425 (.ref 188),ze P "MOST_PLACES" 429 (.int 14 428),ze P "is_whole" 436 (.ref 197),ze P "is_pair" 443 (.ref 204),ze P "is_place" 451 (.ref 211),ze P "is_tie" 461 (.ref 218),ze P "is_rising" 467 (.ref 223),ze P "is_web" 473 (.ref 228),ze P "need_web" 480 (.ref 235),ze P "need_place" 488 (.ref 242),ze P "choices" 494 (.ref 247),ze P "are_tied" 503 (.ref 254),ze P "near" 509 (.ref 259),ze P "joins" 517 (.ref 264),ze P "PLACES_OF_A_THREE" 521 (.int 3 520),ze P "are_loose" 527 (.ref 269),ze P "claws" 533 (.ref 274),ze P "threes" 539 (.ref 279),ze P "makes_odd" 545 (.ref 284),ze P "odd_threes" 551 (.ref 289),ze P "is_odd_pair" 557 (.ref 294),ze P "odd_pair" 566 (.ref 301),ze P "_law_tied" 577 (.ref 308),ze P "_law_cell_at" 585 (.ref 315),ze P "_law_state" 594 (.ref 322),ze P "_law_take" 604 (.ref 329),ze P "_law_drawn" 610 (.ref 334),ze P "_law_made" 621 (.ref 341),ze P "_law_mixed" 631 (.ref 348),ze P "_law_few_ties" 648 (.ref 355),ze P "_law_named" 659 (.ref 362),ze P "_law_web" 665 (.ref 367),ze P "_law_same" 671 (.ref 372),ze P "_law_bad_web" 679 (.ref 379),ze P "_law_refused" 685 (.ref 384),ze P "_law_claws" 691 (.ref 389),ze P "_law_odd" 697 (.ref 394),ze P "_law_pair" 703 (.ref 399),ze P "law" 709 (.ref 404)] 61),#[]⟩,boot_o_4 P,boot_o_5 P,boot_o_6 P,boot_o_7 P,boot_o_8 P,boot_o_9 P,boot_o_10 P,zt #[],⟨.none,none,(.fields #[(.int 2 0),(.int 0 0),(.ref 20),(.int 4 0),(.int 0 0),(.ref 33),(.int 6 0),(.int 0 0),(.ref 45),(.int 8 0),(.int 0 0),(.ref 57),(.int 10 0),(.int 0 0),(.ref 69),(.int 12 0),(.int 0 0),(.ref 81),(.int 14 0),(.int 0 0),(.ref 93),(.int 16 0),(.int 0 0),(.ref 105),(.int 18 0),(.int 0 0),(.ref 117),(.int 20 0),(.int 0 0),(.ref 129),(.int 22 0),(.int 0 0),(.ref 141),(.int 24 0),(.int 0 0),(.ref 153),(.int 26 0),(.int 0 0),(.ref 165),(.int 28 0),(.int 0 0),(.ref 177),(.int 35 0),(.int 0 0),(.ref 196),(.int 37 0),(.int 0 0),(.ref 203),(.int 39 0),(.int 0 0),(.ref 210),(.int 41 0),(.int 0 0),(.ref 217),(.int 46 0),(.int 0 0),(.ref 222),(.int 48 0),(.int 0 0),(.ref 227),(.int 55 0),(.int 0 0),(.ref 234),(.int 58 0),(.int 0 0),(.ref 241),(.int 62 0),(.int 0 0),(.ref 246),(.int 66 0),(.int 0 0),(.ref 253),(.int 68 0),(.int 0 0),(.ref 258),(.int 72 0),(.int 0 0),(.ref 263),(.int 76 0),(.int 0 0),(.ref 268),(.int 78 0),(.int 0 0),(.ref 273),(.int 81 0),(.int 0 0),(.ref 278),(.int 83 0),(.int 0 0),(.ref 283),(.int 88 0),(.int 0 0),(.ref 288),(.int 91 0),(.int 0 0),(.ref 293),(.int 95 0),(.int 0 0),(.ref 300),(.int 101 0),(.int 0 0),(.ref 307),(.int 103 0),(.int 0 0),(.ref 314),(.int 107 0),(.int 0 0),(.ref 321),(.int 112 0),(.int 0 0),(.ref 328),(.int 121 0),(.int 0 0),(.ref 333),(.int 126 0),(.int 0 0),(.ref 340),(.int 134 0),(.int 0 0),(.ref 347),(.int 140 0),(.int 0 0),(.ref 354),(.int 153 0),(.int 0 0),(.ref 361),(.int 158 0),(.int 0 0),(.ref 366),(.int 172 0),(.int 0 0),(.ref 371),(.int 180 0),(.int 0 0),(.ref 378),(.int 186 0),(.int 0 0),(.ref 383),(.int 200 0),(.int 0 0),(.ref 388),(.int 209 0),(.int 0 0),(.ref 393),(.int 220 0),(.int 0 0),(.ref 398),(.int 227 0),(.int 0 0),(.ref 403)]),#[]⟩,⟨(.type "code"),none,(.fields #[(zs "<module>" 182),(zs "<module>" 183),(zs "/claim/cut.py" 184),(.int 1 0),(.int 0 0),(.int 0 0),(.int 0 0),(.int 0 0),(.ref 11),(.bool dt),(.int 181 0),(.ref 12),.none,.none,.none,.none,(.int 185 0),(.int 1 0),(zs "/claim/cut.py" 186)]),#[]⟩,zr 13 3 (zs "__main__" 164),zt #[(.type "ValueError")],zp,⟨(.type "dict"),none,(.dict #[ze P "__module__" 196 (zs "tiewebs.errors" 187),ze P "__qualname__" 198 (zs "WebError" 197),ze P "__firstlineno__" 200 (.int 2 199),ze P "__static_attributes__" 201 (.ref 22)] 4),#[]⟩,zt #[],z0,zk "WebError" 191 192 193 2 18 181 19 194 2 195,zr 20 17 (zs "tiewebs.errors" 187),zt #[],⟨(.type "dict"),none,(.dict #[ze P "__module__" 196 (zs "tiewebs.errors" 187),ze P "__firstlineno__" 200 (.int 2 199),ze P "__static_attributes__" 201 (.ref 22),ze P "__weakref__" 203 (.ref 25),ze P "__doc__" 204 .none] 3),#[]⟩,⟨(.type "type"),none,(.cls ⟨(i_ "WebError"),[(.type "ValueError")],[(.ref 24),(.type "ValueError"),(.type "Exception"),(.type "BaseException"),(.type "object")],23,(i_ "WebError"),cn,[],[(.ref 37),(.ref 49),(.ref 61),(.ref 73),(.ref 85),(.ref 97),(.ref 109),(.ref 121),(.ref 133),(.ref 145),(.ref 157),(.ref 169),(.ref 188)],dt,none,dt⟩),#[ar (.ref 15),none,ar (zs "WebError" 189),ar (zs "WebError" 197),ar (.builtin "ValueError.__new__"),ar (.bool cn)]⟩,⟨(.type "getset_descriptor"),none,(.fields #[(zs "__weakref__" 202),(.ref 24),(.builtin "ExceptionGroup.__weakref__"),.none]),#[]⟩,zu 24,zi 24,zt #[(.ref 24)]]++zC P "NoWeb" 29 209 4++zC P "NoPlace" 41 225 6++zC P "NoPlaces" 53 241 8++zC P "NoMap" 65 257 10++zC P "NoSharing" 77 273 12++zC P "NoRoot" 89 289 14++zC P "NoNumber" 101 305 16++zC P "NotJoined" 113 321 18++zC P "NoTie" 125 337 20++zC P "NoText" 137 353 22++zC P "NoLine" 149 369 24++zC P "NoDeed" 161 385 26++[zp,⟨(.type "dict"),none,(.dict #[ze P "__module__" 406 (zs "tiewebs.errors" 187),ze P "__qualname__" 408 (zs "TooGreat" 407),ze P "__firstlineno__" 410 (.int 28 409),ze P "__init__" 419 (.ref 185),ze P "__static_attributes__" 422 (.ref 186)] 5),#[]⟩,zt #[],⟨.none,none,(.fields #[(.int 30 0),(.int 4 0),(.ref 184)]),#[]⟩,zk "TooGreat" 401 402 403 28 175 181 176 404 28 405,zr 177 174 (zs "tiewebs.errors" 187),zt #[],z0,zt #[(zs "self" 414),(zs "many" 415),(zs "most" 416)],zt #[],zg "__init__" "TooGreat.__init__" (iC (tp 14)),zc "__init__" "TooGreat.__init__" 411 30 3 0 0 3 (.ref 179) 181 (.ref 180) (.ref 181) (.ref 182) (.ref 183) 417 418,⟨.type "function",none,(zf "__init__" "TooGreat.__init__" (iC (tp 14)) .none .none (zs "tiewebs.errors" 187) none (.ref 184) .none),#[]⟩,zt #[(zs "many" 420),(zs "most" 421)],⟨(.type "dict"),none,(.dict #[ze P "__module__" 406 (zs "tiewebs.errors" 187),ze P "__firstlineno__" 410 (.int 28 409),ze P "__init__" 419 (.ref 185),ze P "__static_attributes__" 422 (.ref 186),ze P "__doc__" 423 .none] 2),#[]⟩,⟨(.type "type"),none,(.cls ⟨(i_ "TooGreat"),[(.ref 24)],[(.ref 188),(.ref 24),(.type "ValueError"),(.type "Exception"),(.type "BaseException"),(.type "object")],187,(i_ "TooGreat"),cn,[],[],dt,none,dt⟩),#[ar (.ref 172),none,ar (zs "TooGreat" 399),ar (zs "TooGreat" 407),ar (.builtin "ValueError.__new__"),ar (.bool cn)]⟩,zu 188,zi 188]++zD "is_whole" 17 191 430 35 1 3 #[zs "thing" 433] "tiewebs.webs" 426 434++zD "is_pair" 18 198 437 37 1 3 #[zs "thing" 440] "tiewebs.webs" 426 441++zD "is_place" 19 205 444 39 2 3 #[zs "many" 447,zs "thing" 448] "tiewebs.webs" 426 449++zD "is_tie" 20 212 452 41 2 3 #[zs "many" 455,zs "thing" 456,zs "low" 457,zs "high" 458] "tiewebs.webs" 426 459++zE "is_rising" 21 219 462 46 1 3 "tiewebs.webs" 426 465++zE "is_web" 22 224 468 48 1 3 "tiewebs.webs" 426 471++zD "need_web" 23 229 474 55 1 3 #[zs "thing" 477] "tiewebs.webs" 426 478++zD "need_place" 24 236 481 58 2 3 #[zs "web" 484,zs "place" 485] "tiewebs.webs" 426 486++zE "choices" 25 243 489 62 2 3 "tiewebs.webs" 426 492++zD "are_tied" 26 248 495 66 3 3 #[zs "web" 498,zs "one" 499,zs "other" 500] "tiewebs.webs" 426 501++zE "near" 27 255 504 68 2 3 "tiewebs.webs" 426 507++zE "joins" 29 260 512 72 3 3 "tiewebs.crowds" 510 515++zE "are_loose" 32 265 522 76 2 3 "tiewebs.bars" 518 525++zE "claws" 33 270 528 78 1 3 "tiewebs.bars" 518 531++zE "threes" 34 275 534 81 1 3 "tiewebs.bars" 518 537++zE "makes_odd" 35 280 540 83 3 3 "tiewebs.bars" 518 543++zE "odd_threes" 36 285 546 88 1 3 "tiewebs.bars" 518 549++zE "is_odd_pair" 37 290 552 91 3 3 "tiewebs.bars" 518 555++zD "odd_pair" 38 295 558 95 1 3 #[zs "web" 561,zs "one" 562,zs "other" 563] "tiewebs.bars" 518 564++zD "_law_tied" 40 302 569 101 3 3 #[zs "_law_web_here" 572,zs "_law_one" 573,zs "_law_other" 574] ml 567 575++zD "_law_cell_at" 41 309 578 103 2 3 #[zs "_law_script" 581,zs "_law_k" 582] ml 567 583++zD "_law_state" 42 316 586 107 2 3 #[zs "_law_script" 589,zs "_law_k" 590,zs "_law_cell" 591] ml 567 592++zD "_law_take" 43 323 595 112 2 3 #[zs "_law_state_here" 598,zs "_law_many" 599,zs "_law_found" 600,zs "_law_stirred" 601] ml 567 602++zE "_law_drawn" 44 330 605 121 3 3 ml 567 608++zD "_law_made" 45 335 611 126 1 3 #[zs "_law_web_here" 614,zs "_law_ties" 615,zs "_law_found" 616,zs "_law_a" 617,zs "_law_b" 618] ml 567 619++zD "_law_mixed" 46 342 622 134 2 3 #[zs "_law_state_here" 625,zs "_law_many" 626,zs "_law_left" 627,zs "_law_found" 628] ml 567 629++zD "_law_few_ties" 47 349 632 140 2 3 #[zs "_law_state_here" 635,zs "_law_most" 636,zs "_law_many" 637,zs "_law_some" 638,zs "_law_ties" 639,zs "_law_at" 640,zs "_law_one" 641,zs "_law_other" 642,zs "_law_turn" 643,zs "_law_a" 644,zs "_law_b" 645] ml 567 646++zD "_law_named" 48 356 649 153 2 3 #[zs "_law_web_here" 652,zs "_law_names" 653,zs "_law_ties" 654,zs "_law_a" 655,zs "_law_b" 656] ml 567 657++zE "_law_web" 49 363 660 158 2 3 ml 567 663++zE "_law_same" 50 368 666 172 2 3 ml 567 669++zD "_law_bad_web" 51 373 672 180 1 3 #[zs "_law_state_here" 675,zs "_law_some" 676] ml 567 677++zE "_law_refused" 52 380 680 186 1 3 ml 567 683++zE "_law_claws" 53 385 686 200 1 3 ml 567 689++zE "_law_odd" 54 390 692 209 1 3 ml 567 695++zE "_law_pair" 55 395 698 220 2 3 ml 567 701++zE "law" 56 400 704 227 1 3 ml 567 707
def Lb(P:O'):List Obj:=[boot_o_0 P,boot_o_1 P,boot_o_2 P,boot_o_3 P,boot_o_4 P,boot_o_5 P,boot_o_6 P,boot_o_7 P,boot_o_8 P,boot_o_9 P,boot_o_10 P,zt #[],z0,⟨(.type "code"),none,(.fields #[(zs "<module>" 182),(zs "<module>" 183),(zs "/claim/cut.py" 184),(.int 1 0),(.int 0 0),(.int 0 0),(.int 0 0),(.int 0 0),(.ref 11),(.bool dt),(.int 181 0),(.ref 12),.none,.none,.none,.none,(.int 185 0),(.int 1 0),(zs "/claim/cut.py" 186)]),#[]⟩,zr 13 3 (zs "__main__" 164)]
def as0:List Addr:=[2,3,15,22,23,24,25,28,35,36,37,40,47,48,49,52,59,60,61,64,71,72,73,76,83,84,85,88,95,96,97,100,107,108,109,112,119,120,121,124,131,132,133,136,143,144,145,148,155,156,157,160,167,168,169,172,179,181,182,184,185,186,187,188,191,193,194,196,197,198,200,201,203,204,205,207,208,210,211,212,214,215,217,218,219,222,223,224,227,228,229,231,232,234,235,236,238,239,241,242,243,246,247,248,250,251,253,254,255,258,259,260,263,264,265,268,269,270,273,274,275,278,279,280,283,284,285,288,289,290,293,294,295,297,298,300,301,302,304,305,307,308,309,311,312,314,315,316,318,319,321,322,323,325,326,328,329,330,333,334,335,337,338,340,341,342,344,345,347,348,349,351,352,354,355,356,358,359,361,362,363,366,367,368,371,372,373,375,376,378,379,380,383,384,385,388,389,390,393,394,395,398,399,400,403,404]
def ts0:List Addr:=[401]
def vq:Program:={PySem.Challenge.pw_tiewebs_k51_claws_and_odd_threes with main:={PySem.Challenge.pw_tiewebs_k51_claws_and_odd_threes.main with body:=[tp 1,tp 2,tp 3,tp 4,tp 5,tp 6,tp 7,tp 8,tp 9,tp 10,tp 11,tp 12,tp 13,tp 14,tp 16,tp 17,tp 18,tp 19,tp 20,tp 21,tp 22,tp 23,tp 24,tp 25,tp 26,tp 27,tp 29,tp 31,tp 32,tp 33,tp 34,tp 35,tp 36,tp 37,tp 38,tp 40,tp 41,tp 42,tp 43,tp 44,tp 45,tp 46,tp 47,tp 48,tp 49,tp 50,tp 51,tp 52,tp 53,tp 54,tp 55,tp 56]}}
def alt:Bool->List Obj->List Obj
 |_,[]=>[]
 |true,a::r=>a::alt dt r
 |false,_::r=>alt cn r
def toT:Nat->List Obj->BT
 |0,_=>.nil
 |_+1,[]=>.nil
 |f+1,o::r=>.node o (toT f (alt cn r)) (toT f (alt dt r))
def pick:Nat->List bc->List Obj->c_
 |i,as,o::os=>match as with
  |a::r=>if Nat.beq i a then (a,o)::pick (i+1) r os else pick (i+1) (a::r) os
  |[]=>[]
 |_,_,[]=>[]
def K0(P:O'):W.Frag:=pick 0 as0 (L1 P)
theorem as0_eq:∀P,as0=(K0 P).map (·.1):=λ_=>by kernel_rfl
abbrev pw:Program:=PySem.Challenge.pw_tiewebs_k51_claws_and_odd_threes
abbrev Xt0(s:b_):Bool:=xlAt vq [] s && recOk (RowW.records (OpenRow.toRowW (OpenLaw.row PySem.Challenge.rw_tiewebs_k51_claws_and_odd_threes))) s
def lf:Life:={}
def en:Env:={scope:=pw.main.scope,locals:=mainNs,globals:=mainNs,cells:=[],code:=(.ref 13),frame:=ar 14}
abbrev cE:Code:=.body (Rb pw) en
abbrev Bf:List Frame:=[topFrame ⟨0,0,0,0⟩]
abbrev S0(w:eK)(os:R5):Shared:=⟨I_ w.params,D' [],boot_drawn,boot_toks,os⟩
abbrev Sb(w:eK)(os:R5):SharedT:=⟨toT 12 (Lb w.params),15,lf,D' [],⟨0,0,0,0⟩,187,os⟩
abbrev Sm(w:eK)(os:R5):SharedT:=⟨toT 12 (L1 w.params),405,lf,D' [],⟨0,0,0,0⟩,710,os⟩
abbrev Sf(w:eK)(os:R5):Shared:=⟨⟨D' (L1 w.params),lf⟩,D' [],⟨0,0,0,0⟩,710,os⟩
theorem LL:∀w,(λos=>topGo Ri pw w 11 (ar (.ref 6)) 12 (S0 w os) (topStub pw))=λos=>ar ((Sb w os).abs,⟨denote Ri cE,cE,⟨0,0,0,0⟩,Bf⟩):=λw=>by kernel_rfl
theorem He:∀w,(λos=>segRun Ri pw w 11 (ar (.ref 6)) 1 1 (Sb w os).abs (blockOf (Rb pw) en cE ⟨0,0,0,0⟩ Bf))=λos=>ar (.next,(Sb w os).abs,cE,⟨0,0,0,0⟩):=λw=>by kernel_rfl
theorem JW:∀w,(λos=>segRunT Ri pw w 11 (ar (.ref 6)) 1 4079 (Sb w os) (piecesOf (Rb pw) en cE ⟨0,0,0,0⟩ Bf))=λos=>ar (.next,Sm w os,cE,⟨227,0,245,15⟩):=λw=>by kernel_rfl
theorem LM:∀w,(λos=>topRun Ri pw w 11 (ar (.ref 6)) 2 (Sm w os).abs ⟨doneF .next,cE,⟨227,0,245,15⟩,Bf⟩)=λos=>ar (Sf w os):=λw=>by kernel_rfl
theorem LN(w:eK)(os:R5):topRun Ri pw w 11 (ar (.ref 6)) (12+(1+(4079+2))) (S0 w os) (topStub pw)=ar (Sf w os):=
 go_top (N0 (LL w) os) (piece_block (N0 (He w) os) (by have:=piece_app (rest:=[]) (segRun_of (N0 (JW w) os)) (piece_nil (N0 (LM w) os));rw[NT]at this;exact this))
theorem JX:∀w:eK,((I_ w.params).isNs gd && (D' []:Array RW).size==0,(I_ w.params).objs.size,(I_ w.params).nsMap gd "__annotations__")=(cn,11,(ar (.ref 6))):=λw=>by kernel_rfl
theorem JY:∀w os,(staticsOk (ly pw.main.body) (I_ w.params) (Sf w os).heap && namesBound pw (Sf w os).heap && gensDone (Sf w os) && laidKept (I_ w.params) (Sf w os).heap)=true:=λw os=>by kernel_rfl
theorem LP:∀w os,(y9 vq [] (ly pw.main.body) Xt0 cn (Sf w os)).1=(y_ vq []).1:=λw os=>by kernel_rfl
theorem LQ:∀w os,(y9 vq [] (ly pw.main.body) Xt0 cn (Sf w os)).2.1=(y_ vq []).2.1:=λw os=>by kernel_rfl
theorem LR:∀w os,(y9 vq [] (ly pw.main.body) Xt0 cn (Sf w os)).2.2.1=(y_ vq []).2.2.1:=λw os=>by kernel_rfl
theorem LS:∀w os,(y9 vq [] (ly pw.main.body) Xt0 cn (Sf w os)).2.2.2.1=(y_ vq []).2.2.2.1:=λw os=>by kernel_rfl
theorem LU:∀w os,(y9 vq [] (ly pw.main.body) Xt0 cn (Sf w os)).2.2.2.2.1=(y_ vq []).2.2.2.2.1:=λw os=>by kernel_rfl
theorem LV:∀w os,(y9 vq [] (ly pw.main.body) Xt0 cn (Sf w os)).2.2.2.2.2.1=(y_ vq []).2.2.2.2.2.1:=λw os=>by kernel_rfl
theorem LW:∀w os,(y9 vq [] (ly pw.main.body) Xt0 cn (Sf w os)).2.2.2.2.2.2.1=(y_ vq []).2.2.2.2.2.2.1:=λw os=>by kernel_rfl
theorem LX:∀w os,(y9 vq [] (ly pw.main.body) Xt0 cn (Sf w os)).2.2.2.2.2.2.2.1=(y_ vq []).2.2.2.2.2.2.2.1:=λw os=>by kernel_rfl
theorem LY:∀w os,(y9 vq [] (ly pw.main.body) Xt0 cn (Sf w os)).2.2.2.2.2.2.2.2=(y_ vq []).2.2.2.2.2.2.2.2:=λw os=>by kernel_rfl
theorem JZ:∀w os,TL (RX K0 as0 as0_eq ts0) (Sf w os)=TN (RX K0 as0 as0_eq ts0) w:=λw os=>by kernel_rfl
theorem J0(w:eK)(os:R5):y9 vq [] (ly pw.main.body) Xt0 cn (Sf w os)=y_ vq []:=Qv (LP w os) (Qv (LQ w os) (Qv (LR w os) (Qv (LS w os) (Qv (LU w os) (Qv (LV w os) (Qv (LW w os) (Qv (LX w os) (LY w os))))))))
theorem left0:LeftO (OpenLaw.row PySem.Challenge.rw_tiewebs_k51_claws_and_odd_threes).prog vq [] Xt0 (TL (RX K0 as0 as0_eq ts0)) (TN (RX K0 as0 as0_eq ts0)) 8282:=
 LeftO.of_pieces (p:=pw) (H₀:=I_) (H₁:=λP=>⟨D' (L1 P),lf⟩) (gs₀:=D' []) (gs₁:=D' []) (d₀:=boot_drawn) (d₁:=⟨0,0,0,0⟩) (k₀:=boot_toks) (k₁:=710) (M:=12+(1+(4079+2))) (boot_open (p:=pw) (by kernel_rfl) (by decide) (λs=>by kernel_rfl)) JX LN (by decide) λw=>funext λos=>Qv (JY w os) (Qv (J0 w os) (JZ w os))
end KH
section
namespace L2
open PySem PySem.Spec PyProof.Rows
abbrev Key:=Sum Int Str
def GR:Key->aC->Bool
 | .inl k,v=>Value.isInt k v
 | .inr x,v=>Value.isStrOf x v
def LZ(w:eK):Key->Int
 | .inl k=>hashInt k
 | .inr x=>hashStr w x
theorem cW:∀{k:Key} {v:aC},GR k v=cn->(∃i t,k=R6 i/\v=r_ i t)\/(∃x t,k=R7 x/\v=R8 x t)
 | .inl i,v,h=>by
  obtain⟨t,e⟩:=Value.isInt_shape (k:=i) (v:=v) h;exact .inl ⟨i,t,rfl,e⟩
 | .inr x,v,h=>by
  obtain⟨t,e⟩:=Value.isStrOf_shape (x:=x) (v:=v) h;exact .inr ⟨x,t,rfl,e⟩
theorem Hf(a b:Int):decide ((R6 a:Key)=R6 b)=(a==b):=by
 by_cases e:a=b
 ·subst e;simp
 ·have h:¬ (R6 a:Key)=R6 b:=λq=>e (Sum.inl.inj q);rw[N7 h];exact(beq_eq_false_iff_ne.mpr e).symm
theorem Hg(a b:Str):decide ((R7 a:Key)=R7 b)=decide (a=b):=by
 by_cases e:a=b
 ·subst e;simp
 ·have h:¬ (R7 a:Key)=R7 b:=λq=>e (Sum.inr.inj q);rw[N7 h,N7 e]
theorem Hh(a:Int)(b:Str):decide ((R6 a:Key)=R7 b)=false:=N7 (λq=>nomatch q)
theorem Hi(a:Str)(b:Int):decide ((R7 a:Key)=R6 b)=false:=N7 (λq=>nomatch q)
def zw(prog:eb)(w:eK):PySem.KeyKind prog w Key where
 is:=GR
 hash:=LZ w
 inj:=λv a b ha hb=>by
  rcases cW ha with⟨i,t,rfl,rfl⟩|⟨x,t,rfl,rfl⟩
  ·rcases cW hb with⟨j,u,rfl,e⟩|⟨y,u,rfl,e⟩
   ·injection e with e1 _;rw[e1]
   ·exact nomatch e
  ·rcases cW hb with⟨j,u,rfl,e⟩|⟨y,u,rfl,e⟩
   ·exact nomatch e
   ·injection e with e1 _;rw[e1]
 byValue:=λk v h=>by rcases cW h with⟨i,t,rfl,rfl⟩|⟨x,t,rfl,rfl⟩<;>rfl
 pyHash:=λhv h=>by
  rcases cW hv with⟨i,t,rfl,rfl⟩|⟨x,t,rfl,rfl⟩
  ·exact wpAny_pyHash_int h
  ·exact wpAny_pyHash_str h
 eqBool:=λhu hv h=>by
  rcases cW hu with⟨i,t,rfl,rfl⟩|⟨x,t,rfl,rfl⟩
  ·rcases cW hv with⟨j,u,rfl,rfl⟩|⟨y,u,rfl,rfl⟩
   ·rw[Hf]at h;exact Ru h
   ·rw[Hh]at h;exact SeqAt.EqAt.int_str i t y u _ _ _ _ h
  ·rcases cW hv with⟨j,u,rfl,rfl⟩|⟨y,u,rfl,rfl⟩
   ·rw[Hi]at h;exact SeqAt.EqAt.str_int x t j u _ _ _ _ h
   ·rw[Hg]at h;exact wpAny_eqBool_str h
 «strs»:=λk x t v h=>by
  rcases cW h with⟨i,u,rfl,e⟩|⟨y,u,rfl,e⟩
  ·exact nomatch e
  ·injection e with e1 _;subst e1;cases v<;>rfl
inductive V where
 |non|bl (b:Bool)|int (i:Int)|str (x:Str)|byt (b:Array UInt8)|flt (b:UInt64)|ref (a:bc)|ty (n:String)
 deriving DecidableEq
def RelV:V->aC->Prop
 | .non,u=>u=h_
 | .bl b,u=>u=v_ b
 | .int i,u=>∃t,u=r_ i t
 | .str x,u=>∃t,u=R8 x t
 | .byt b,u=>∃t,u=Value.bytes b t
 | .flt b,u=>∃t,u=SL b t
 | .ref a,u=>u=ee a
 | .ty n,u=>u=y3 n
abbrev bg:List V->List aC->Prop:=Paired RelV
theorem bg.length{xs:List V}{us:List aC}(r:bg xs us):xs.length=us.length:=Paired.length r
theorem bg.get:∀{xs:List V} {us:List aC} {i:Nat} {x:V},bg xs us->xs[i]? =ar x->∃u,us[i]? =ar u/\RelV x u
 |_,_,_,_,.nil,e=>by simp at e
 |_,_,0,_,.cons r _,e=>by simp at e;subst e;exact⟨_,rfl,r⟩
 |_,_,i+1,x,.cons _ t,e=>by
  obtain⟨u,Z,Y⟩:=bg.get (i:=i) (x:=x) t (by simpa using e);exact⟨u,by simpa using Z,Y⟩
theorem bg.set{x:V}{u:aC}(r:RelV x u):∀{xs:List V} {us:List aC} (i:Nat),bg xs us->bg (xs.set i x) (us.set i u)
 |_,_,_,.nil=>.nil
 |_,_,0,.cons _ t=>.cons r t
 |_,_,i+1,.cons q t=>.cons q (bg.set r i t)
theorem bg.append:∀{xs ys:List V} {us ws:List aC},bg xs us->bg ys ws->bg (xs++ys) (us++ws)
 |_,_,_,_,.nil,s=>s
 |_,_,_,_,.cons r t,s=>.cons r (bg.append t s)
theorem bg.take:∀{xs:List V} {us:List aC} (n:Nat),bg xs us->bg (xs.take n) (us.take n)
 |_,_,0,_=>.nil
 |_,_,_+1,.nil=>.nil
 |_,_,n+1,.cons r t=>.cons r (bg.take n t)
theorem bg.drop:∀{xs:List V} {us:List aC} (n:Nat),bg xs us->bg (xs.drop n) (us.drop n)
 |_,_,0,r=>r
 |_,_,_+1,.nil=>.nil
 |_,_,n+1,.cons _ t=>bg.drop n t
def E8:Option V->Option aC->Prop
 |some v,ar u=>RelV v u
 |none,none=>True
 |_,_=>False
def KV{κ:Type}:List (κ×V)->List (κ×aC)->Prop:=Paired λ(p:κ×V) (q:κ×aC)=>p.1=q.1/\RelV p.2 q.2
def kV:Key->V
 | .inl i=>.int i
 | .inr x=>.str x
inductive HO where
 |lst (xs:List V)
 |tup (xs:List V)
 |dK (kvs:List (Key×V))|dT (kvs:List (List Key×V))
 |set (S:Int->Bool) (n:Nat)
 |ins (C dx:bc) (fs:List (Str×V))
 |own (x:bc)
 |xd (fs:List (Str×V))
 |met (f x:bc)
 |rng (lo hi:Int)
 |frz (o:Obj) (u:HO)
 |tbl (ps:Array aC)
 |ext (φ:f'->Prop)
abbrev Hp:=bc->Option HO
def upd(H:Hp)(a:bc)(o:HO):Hp:=λb=>if b=a then ar o else H b
theorem a8{H:Hp}{a:bc}{o:HO}:upd H a o a=ar o:=by unfold upd;rw[if_pos rfl]
theorem aO{H:Hp}{a b:bc}{o:HO}(h:b≠a):upd H a o b=H b:=by unfold upd;rw[if_neg h]
theorem GS{H:Hp}{a b:bc}{o u:HO}(h:H a=ar o)(h':H b=ar u)(d:o≠u):a≠b:=by intro e;subst e;rw[h]at h';exact d (NP h')
theorem aM{H:Hp}{a b:bc}{o:HO}(h:H a=ar o)(h':H b=none):a≠b:=by intro e;subst e;rw[h]at h';cases h'
section
variable (P:eb)(w:eK)
def bB(H:Hp)(h:f')(a:bc):HO->Prop
 | .lst xs=>xs.length<=sizeLine/\∃(its:List aC) (n:Nat),bg xs its/\h.get? a=ar {cls:=.type "list",data:=.seq its.toArray n}
 | .tup xs=>(xs.length<=sizeLine/\∃o,h.get? a=ar o/\o.dict=none)/\∃its:List aC,bg xs its/\Tq h a its.toArray
 | .dK kvs=>kvs.length<=sizeLine/\(a==S8)=dt/\∃vs,KV kvs vs/\h.DictOf (zw P w) a vs
 | .dT kvs=>kvs.length<=sizeLine/\(a==S8)=dt/\∃xs:List (List Key×bc×aC),
   Paired (λ(p:List Key×V) (q:List Key×bc×aC)=>p.1=q.1/\H q.2.1=ar (.tup (p.1.map kV))/\RelV p.2 q.2.2) kvs xs/\
   ∃o es ep,h.get? a=ar o/\o.ExactDict/\o.data= .dict es ep/\es.toList=xs.map (entryOfKey (tupleKind (zw P w)))/\(xs.map (·.1)).Nodup
 | .set S n=>h.SetOf (o_ P w) a S n
 | .ins C dx fs=>H dx=ar (.own a)/\fs.length<=1000/\dx≠a/\h.get? a=ar (Tr C dx)/\
   ∃mA,h.Ns1 dx mA/\(∀f,E8 (fs.lookup f) (mA f))/\PySem.Within mA (fs.map (·.1))
 | .own _=>∃o,h.get? a=ar o
 | .xd fs=>∃mA,h.Ns1 a mA/\∀f,E8 (fs.lookup f) (mA f)
 | .rng lo hi=>∃t u v,h.get? a=ar {cls:=.type "range",data:=.fields #[.int lo t,.int hi u,.int 1 v]}
 | .frz o u=>h.get? a=ar o/\bB H h a u
 | .tbl ps=>h.get? a=ar {cls:=.none,data:=.fields ps}
 | .met f x=>h.get? a=ar (SM (.ref f) (.ref x))
 | .ext φ=>φ h/\(∃o,h.get? a=ar o)/\∀h1 h2:f',φ h1->(∀o,h1.get? a=ar o->h2.get? a=ar o)->φ h2
theorem uq{h:f'}{xs:List V}{items:Array aC}(z:xs.length<=sizeLine):xs.length<=sizeLine/\∃o,(h.push {cls:=.type "tuple",data:=.seq items}).get? h.objs.size=ar o/\o.dict=none:=⟨z,_,Nw _ rfl,rfl⟩
def iG(H:Hp)(h:f'):Prop:=∀a o,H a=ar o->bB P w H h a o
end
section
variable {P:eb}{w:eK}{H H':Hp}{h h':f'}{a:bc}{o:HO}
theorem bB.lt(x:bB P w H h a o):a<h.objs.size:=by
 cases o with
 |lst xs=>obtain⟨_,_,_,_,e⟩:=x;exact Nu e
 |tup xs=>obtain⟨_,_,_,p⟩:=x;exact p.lt
 |dK kvs=>obtain⟨_,_,_,_,o,_,_,e,_⟩:=x;exact Nu e
 |dT kvs=>obtain⟨_,_,_,_,o,_,_,e,_⟩:=x;exact Nu e
 |set S n=>obtain⟨o,_,_,_,e,_⟩:=x;exact Nu e
 |ins C dx fs=>obtain⟨_,_,_,e,_⟩:=x;exact Nu e
 |own y=>obtain⟨_,e⟩:=x;exact Nu e
 |xd fs=>obtain⟨_,⟨_,_,_,e,_⟩,_⟩:=x;exact Nu e
 |rng lo hi=>obtain⟨_,_,_,e⟩:=x;exact Nu e
 |frz ob u=>obtain⟨e,_⟩:=x;exact Nu e
 |tbl ps=>exact Nu (show h.get? a=ar _ from x)
 |met f y=>exact Nu (show h.get? a=ar _ from x)
 |ext φ=>obtain⟨_,⟨_,e⟩,_⟩:=x;exact Nu e
theorem Paired.mapP{α β:Type}{F G:α->β->Prop}:∀{l₁:List α} {l₂:List β},Paired F l₁ l₂->(∀a b,F a b->G a b)->Paired G l₁ l₂
 |_,_,.nil,_=>.nil
 |_,_,.cons r t,f=>.cons (f _ _ r) (Paired.mapP t f)
theorem bB.stay(x:bB P w H h a o)(k:∀b u,(b=a\/H b=ar (.own a))->h.get? b=ar u->h'.get? b=ar u)
  (U:∀b,H b=ar (.own a)->H' b=ar (.own a)) (R:∀b xs,H b=ar (.tup xs)->H' b=ar (.tup xs)):bB P w H' h' a o:=by
 induction o with
 |lst xs=>obtain⟨z,its,n,r,e⟩:=x;exact⟨z,its,n,r,k _ _ (.inl rfl) e⟩
 |tup xs=>obtain⟨⟨z,T,Q,X⟩,its,r,Z,e,c⟩:=x;exact⟨⟨z,T,k _ _ (.inl rfl) Q,X⟩,its,r,Z,k _ _ (.inl rfl) e,c⟩
 |dK kvs=>obtain⟨z,y,vs,r,Z,es,ep,e,c⟩:=x;exact⟨z,y,vs,r,Z,es,ep,k _ _ (.inl rfl) e,c⟩
 |dT kvs=>
  obtain⟨z,y,xs,r,Z,es,ep,e,c⟩:=x;exact⟨z,y,xs,Paired.mapP r λp q z=>⟨z.1,R _ _ z.2.1,z.2.2⟩,Z,es,ep,k _ _ (.inl rfl) e,c⟩
 |set S n=>obtain⟨Z,es,ep,t,e,c⟩:=x;exact⟨Z,es,ep,t,k _ _ (.inl rfl) e,c⟩
 |ins C dx fs=>
  obtain⟨d,z,ne,e,Y,⟨od,es,ep,e2,c⟩,r⟩:=x;exact⟨U _ d,z,ne,k _ _ (.inl rfl) e,Y,⟨od,es,ep,k _ _ (.inr d) e2,c⟩,r⟩
 |own y=>obtain⟨Z,e⟩:=x;exact⟨Z,k _ _ (.inl rfl) e⟩
 |xd fs=>obtain⟨Y,⟨od,es,ep,e,c⟩,r⟩:=x;exact⟨Y,⟨od,es,ep,k _ _ (.inl rfl) e,c⟩,r⟩
 |rng lo hi=>obtain⟨t,u,v,e⟩:=x;exact⟨t,u,v,k _ _ (.inl rfl) e⟩
 |frz Z u ih=>obtain⟨e,q⟩:=x;exact⟨k _ _ (.inl rfl) e,ih q⟩
 |tbl ps=>
  have e:h.get? a=ar {cls:=.none,data:=.fields ps}:=x;show h'.get? a=ar {cls:=.none,data:=.fields ps};exact k a _ (.inl rfl) e
 |met f y=>
  have e:h.get? a=ar (SM (.ref f) (.ref y)):=x;show h'.get? a=ar (SM (.ref f) (.ref y));exact k a _ (.inl rfl) e
 |ext φ=>obtain⟨p,⟨o,e⟩,st⟩:=x;exact⟨st _ _ p λo q=>k _ _ (.inl rfl) q,⟨o,k _ _ (.inl rfl) e⟩,st⟩
theorem iG.lt(x:iG P w H h)(e:H a=ar o):a<h.objs.size:=(x a o e).lt
theorem iG.fresh(x:iG P w H h)(e:h.objs.size<=a):H a=none:=by
 cases q:H a with
 |none=>rfl
 |some u=>exact absurd (NC (x.lt q) e) (O0 _)
theorem iG.kept(x:iG P w H h)(k:∀b u,h.get? b=ar u->h'.get? b=ar u):iG P w H h':=λa o e=>
 (x a o e).stay (λb u _ q=>k b u q) (λ_ q=>q) λ_ _ q=>q
theorem iG.laid(x:iG P w H h)(k:∀b u,h.get? b=ar u->h'.get? b=ar u)(X:h.objs.size<=a)(Z:bB P w (upd H a o) h' a o):iG P w (upd H a o) h':=λb u e=>by
 have Y:=x.fresh X;by_cases hb:b=a
 ·subst hb;rw[a8]at e;cases e;exact Z
 ·rw[aO hb]at e;exact(x b u e).stay (λc v _ q=>k c v q) (λc q=>by rw[aO (aM q Y)];exact q) λc xs q=>by rw[aO (aM q Y)];exact q
end
def Rd(H:Hp)(a:bc)(u:HO):Prop:=H a=ar u\/∃o,H a=ar (.frz o u)
theorem Rd.ok{P:eb}{w:eK}{H:Hp}{h:f'}{a:bc}{u:HO}(r:Rd H a u)(x:iG P w H h):bB P w H h a u:=by
 rcases r with r|⟨o,r⟩
 ·exact x a u r
 ·obtain⟨_,q⟩:=x a _ r;exact q
def Ly:Option HO->Prop
 |some (.lst _)=>True
 |some (.dK _)=>True
 |some (.dT _)=>True
 |some (.set _ _)=>True
 |some (.ins _ _ _)=>True
 |some (.ext _)=>True
 |_=>False
section
variable {P:eb}{w:eK}{H:Hp}{h h':f'}{x e:bc}{o':HO}
theorem iG.write(O:iG P w H h)(X:Ly (H x))(S:e=x\/H e=ar (.own x))(k:∀b u,b≠e->h.get? b=ar u->h'.get? b=ar u)(U:∃u,h'.get? e=ar u)
  (T:bB P w (upd H x o') h' x o'):iG P w (upd H x o') h':=λb u q=>by
 have Z:∀c y,H c=ar (.own y)->c≠x:=λc y r z=>by subst z;rw[r]at X;exact X
 have Y:∀c xs,H c=ar (.tup xs)->c≠x:=λc xs r z=>by subst z;rw[r]at X;exact X
 by_cases hb:b=x
 ·subst hb;rw[a8]at q;cases q;exact T
 ·rw[aO hb]at q;by_cases hbe:b=e
  ·have R:H b=ar (.own x):=by
    rcases S with z|z
    ·exact absurd (hbe.trans z) hb
    ·rw[hbe];exact z
   rw[q]at R;cases R;obtain⟨v,Q⟩:=U;exact⟨v,by rw[hbe];exact Q⟩
  ·refine(O b u q).stay (λc v W r=>k c v ?_ r) (λc r=>by rw[aO (Z c b r)];exact r) λc xs r=>by rw[aO (Y c xs r)];exact r
   rcases W with rfl|W
   ·exact hbe
   ·rintro rfl;rcases S with z|z
    ·exact Z c b W z
    ·rw[W]at z;cases z;exact hb rfl
end
structure Un(fs ex:List bc)(H H':Hp)(h h':f'):Prop where
 keep:∀b o,h.get? b=ar o->H b=none->b∉fs->b∉ex->h'.get? b=ar o
 slot:∀b o,h.get? b=ar o->H b=none->b∈fs->b∉ex->∃sl,h'.get? b=ar {o with slots:=sl}
 free:∀b o,h.get? b=ar o->H b=none->b∉ex->H' b=none
 there:∀b o,h.get? b=ar o->b∉ex->∃o',h'.get? b=ar o'
 tups:∀b xs,H b=ar (.tup xs)->H' b=ar (.tup xs)
 frzs:∀b o u,H b=ar (.frz o u)->H' b=ar (.frz o u)
 tbls:∀b ps,H b=ar (.tbl ps)->∃more,H' b=ar (.tbl (ps++more))
section
variable {fs fs' ex ex':List bc}{H H1 H2:Hp}{h h1 h2 h':f'}{a x e:bc}{o:HO}
theorem Un.any(u:Un fs ex H H1 h h1){b:bc}{Z:Obj}(q:h.get? b=ar Z)(n:H b=none)(Y:b∉ex):∃sl,h1.get? b=ar {Z with slots:=sl}:=by
 by_cases hb:b∈fs
 ·exact u.slot b Z q n hb Y
 ·exact⟨Z.slots,u.keep b Z q n hb Y⟩
theorem Un.kept(k:∀b u,h.get? b=ar u->h'.get? b=ar u):Un fs ex H H h h':=
 ⟨λb Z q _ _ _=>k b Z q,λb Z q _ _ _=>⟨Z.slots,k b Z q⟩,λ_ _ _ n _=>n,λb Z q _=>⟨Z,k b Z q⟩,λ_ _ q=>q,λ_ _ _ q=>q,λ_ Y q=>⟨#[],by rw[q];simp⟩⟩
theorem Un.refl:Un fs ex H H h h:=Un.kept λ_ _ q=>q
theorem Un.laid(k:∀b u,h.get? b=ar u->h'.get? b=ar u)(Y:h.objs.size<=a)(Z:H a=none):Un fs ex H (upd H a o) h h' where
 keep:=λb u q _ _ _=>k b u q
 slot:=λb u q _ _ _=>⟨u.slots,k b u q⟩
 free:=λb u q n _=>by rw[aO (NB (NC (Nu q) Y))];exact n
 there:=λb u q _=>⟨u,k b u q⟩
 tups:=λb xs q=>by rw[aO (aM q Z)];exact q
 frzs:=λb u xs q=>by rw[aO (aM q Z)];exact q
 tbls:=λb X q=>⟨#[],by rw[aO (aM q Z),q];simp⟩
theorem Un.write(Z:Ly (H x))(U:e=x\/H e=ar (.own x))(k:∀b u,b≠e->h.get? b=ar u->h'.get? b=ar u)(Y:∃u,h'.get? e=ar u):Un fs ex H (upd H x o) h h':=by
 have W:∀b,H b=none->b≠x:=λb n z=>by subst z;rw[n]at Z;exact Z
 have X:∀b,H b=none->b≠e:=λb n z=>by
  subst z;rcases U with r|r
  ·exact W b n r
  ·rw[n]at r;cases r
 have hm:∀b u,H b=ar u->¬ Ly (ar u)->b≠x:=λb u q nm z=>by subst z;rw[q]at Z;exact nm Z
 refine⟨λb u q n _ _=>k b u (X b n) q,λb u q n _ _=>⟨u.slots,k b u (X b n) q⟩,λb u q n _=>by rw[aO (W b n)];exact n,λb u q _=>?_,
  λb xs q=>by rw[aO (hm b _ q λz=>z)];exact q,λb u xs q=>by rw[aO (hm b _ q λz=>z)];exact q,λb T q=>⟨#[],by rw[aO (hm b _ q λz=>z),q];simp⟩⟩
 by_cases hbe:b=e
 ·subst hbe;exact Y
 ·exact⟨u,k b u hbe q⟩
end
def Lz(h:f')(H:Hp):List Addr:=(d_ h.objs.size).filter λa=>(H a).isSome
def mq(h:f')(H:Hp):Heap:=W.hideAll h (Lz h H)
theorem oq(h:f')(H:Hp):(mq h H).objs.size=h.objs.size:=W.hideAll_size _ _
theorem nu{h:f'}{H:Hp}{b:bc}{o:Obj}(e:h.get? b=ar o)(n:H b=none):(mq h H).get? b=ar o:=
 W.hideAll_get _ e λhm=>by have q:(H b).isSome=true:=(OE.mp hm).2;rw[n]at q;simp at q
theorem ur{h:f'}{H:Hp}{b:bc}{o:Obj}(e:(mq h H).get? b=ar o):h.get? b=ar o/\H b=none:=by
 have Z:h.get? b=ar o:=W.of_hideAll (Lz h H) e;refine⟨Z,?_⟩;cases q:H b with
 |none=>rfl
 |some x=>
  have hm:b∈Lz h H:=OE.mpr ⟨NR.mpr (Nu Z),by simp[q]⟩;have z:(mq h H).get? b=none:=W.hideAll_none (Lz h H) hm;rw[z]at e;cases e
def nv(g h:f')(L:bc):List (bc×Obj):=(d_ h.objs.size).filterMap λa=>if a=L\/(g.get? a).isSome=cn then none else (h.get? a).map λo=>(a,o)
theorem vT{g h:f'}{L a:bc}{o:Obj}(X:a≠L)(Y:g.get? a=none)(Z:h.get? a=ar o):(a,o)∈nv g h L:=
 OV.mpr ⟨a,NR.mpr (Nu Z),by simp[X,Y,Z]⟩
theorem qE{g h:f'}{L:bc}{p:bc×Obj}(Z:p∈nv g h L):p.1≠L/\g.get? p.1=none/\h.get? p.1=ar p.2:=by
 obtain⟨b,_,e⟩:=OV.mp Z;split at e
 ·cases e
 ·rename_i hn
  cases q:h.get? b with
  |none=>rw[q]at e;simp at e
  |some u=>
   rw[q]at e;simp only[E_,Option.some.injEq]at e;subst e;refine⟨λz=>hn (.inl z),?_,q⟩;show g.get? b=none;cases r:g.get? b with
   |none=>rfl
   |some v=>exact(hn (.inr (by simp[r]))).elim
def rest(g h:f')(L d:bc):List (bc×Obj):=(nv g h L).filter λp=>decide (p.1≠d)
theorem qF{g h:f'}{L:bc}:News g L h (nv g h L):=λp Z=>let ⟨a,b,c⟩:=qE Z;⟨c,a,b⟩
structure Mod(K:c_)(mg:Str->Option aC)(base:f'):Prop where
 kin:K.In base
 glob:base.Ns gd mg
 blt:∃mb,base.Ns y4 mb/\∀x:Str,x≠"__name__"->mb x=lz x
 nolimit:base.NoLimit
structure Cx where
 prog:eb
 w:eK
 K:c_
 mg:Str->Option aC
 base:f'
 A:gg
 N:List Str
 s₀:b_
 H₀:Hp
 env:Env
 outer:List Env
 stack:List Env
 ex:List bc
 fn:Str->Bool
 calm:Bool
 pn:List (bc×Obj)
 xe:aC->b_->Prop
def kP(l:List Env):List Addr:=l.filterMap (·.frame)
abbrev Cx.fs(X:Cx):List Addr:=kP X.outer
def GT(sc:Scope)(x:Str):Prop:=sc.names.lookup x=ar .local\/sc.names.lookup x=ar .cell\/sc.names.lookup x=ar .free
def Loc(sc:Scope)(x:Str):Prop:=sc.names.lookup x=ar .local\/sc.names.lookup x=ar .cell
def Look(env:Env)(h:f')(m:Str->Option aC)(x:Str)(u:aC):Prop:=
 (env.kindOf x=ar .local/\m x=ar u)\/((env.kindOf x=ar .cell\/env.kindOf x=ar .free)/\∃c,env.cells.lookup x=ar c/\h.IsCell c (ar u))
structure Cx.Ok(X:Cx):Prop where
 mod:Mod X.K X.mg X.base
 kind:X.env.scope.kind= .function
 glob:X.env.globals=gd
 blt:X.env.builtins=y4
 above:X.s₀.heap.objs.size<=X.env.locals
 inj:∀x y c,X.env.cells.lookup x=ar c->X.env.cells.lookup y=ar c->x=y
 has:∀x,(X.env.kindOf x=ar .cell\/X.env.kindOf x=ar .free)->∃c,X.env.cells.lookup x=ar c
 cab:∀x c,X.fn x=cn->X.env.cells.lookup x=ar c->X.s₀.heap.objs.size<=c
 hd:X.calm=cn->X.A.handled=none
 frames:X.A.frames=ar X.stack
 stk:X.stack=X.outer\/(X.stack=X.env::X.outer/\X.env.frame=ar X.env.locals)
 exf:∀b∈X.ex,b≠X.env.locals/\∀x c,X.env.cells.lookup x=ar c->c≠b
 bs:∀b o,X.base.get? b=ar o->X.s₀.heap.get? b=ar o/\X.H₀ b=none
 bsz:X.base.objs.size<=X.s₀.heap.objs.size
 noex:∀b o,X.base.get? b=ar o->b∉X.ex
 exfs:∀b∈X.ex,b∉X.fs
 funs:X.s₀.heap.FunFrames X.base X.outer
 frf:∀b∈X.fs,X.H₀ b=none
structure Inv(X:Cx)(pins:List (bc×Obj))(σ:List (Option V))(H:Hp)(s:b_):Prop where
 ok:X.Ok
 os:s.os=X.s₀.os
 bare:B' s.gens
 base:Un X.fs X.ex X.H₀ H X.s₀.heap s.heap
 loc:∃m,s.heap.Ns X.env.locals m/\∀(i:Nat) (x:Str) (v:V),X.N[i]? =ar x->σ[i]? =ar (ar v)->GT X.env.scope x->∃u,RelV v u/\Look X.env s.heap m x u
 cell:∀x c,X.env.cells.lookup x=ar c->∃v,s.heap.IsCell c v
 free:H X.env.locals=none
 freeC:∀x c,X.env.cells.lookup x=ar c->H c=none
 pin:∀p∈X.pn++pins,s.heap.get? p.1=ar p.2/\H p.1=none/\p.1≠X.env.locals/\p.1∉X.fs/\∀v,p.2.data≠ .cell v
 hok:iG X.prog X.w H s.heap
 len:σ.length=X.N.length
section
variable {X:Cx}{pins:List (bc×Obj)}{σ:List (Option V)}{H H':Hp}{s:b_}{h':f'}
theorem Cx.Ok.nofr(Y:X.Ok){b:bc}{o:Obj}(e:X.base.get? b=ar o):b∉X.fs:=λZ=>by have:=(Y.funs.mem Z).1;rw[e]at this;cases this
theorem Inv.bs(I:Inv X pins σ H s):∀b o,X.base.get? b=ar o->s.heap.get? b=ar o/\H b=none:=λb o e=>
 ⟨I.base.keep b o (I.ok.bs b o e).1 (I.ok.bs b o e).2 (I.ok.nofr e) (I.ok.noex b o e),I.base.free b o (I.ok.bs b o e).1 (I.ok.bs b o e).2 (I.ok.noex b o e)⟩
theorem Inv.bk(I:Inv X pins σ H s):∀b o,X.base.get? b=ar o->s.heap.get? b=ar o:=λb o e=>(I.bs b o e).1
theorem Inv.mod(I:Inv X pins σ H s):Mod X.K X.mg X.base:=I.ok.mod
theorem Inv.kIn(I:Inv X pins σ H s):X.K.In s.heap:=I.ok.mod.kin.keeps I.bk
theorem Inv.fr(I:Inv X pins σ H s):∃m,Fr X.base X.env.locals s.heap m:=
 let ⟨m,hn,_⟩:=I.loc
 ⟨m,hn,I.bk,Nv I.ok.bsz I.ok.above⟩
theorem Inv.lt(I:Inv X pins σ H s):X.env.locals<s.heap.objs.size:=let ⟨_,hn,_⟩:=I.loc;hn.lt
theorem Inv.sz(I:Inv X pins σ H s):X.s₀.heap.objs.size<=s.heap.objs.size:=Nv I.ok.above (O1 I.lt)
theorem Inv.nofs(I:Inv X pins σ H s){a:bc}(h:s.heap.objs.size<=a):a∉X.fs:=λZ=>by obtain⟨_,o,Y,_⟩:=I.ok.funs.mem Z;exact absurd (NC (Nu Y) (Nv I.sz h)) (O0 _)
theorem Inv.cne(I:Inv X pins σ H s):∀x c,X.env.cells.lookup x=ar c->c≠X.env.locals:=λx c e z=>by obtain⟨v,o,W,hd⟩:=I.cell x c e;obtain⟨m,⟨U,es,ep,Y,Z,_⟩,_⟩:=I.loc;rw[z,Y]at W;cases W;rw[Z]at hd;cases hd
theorem Inv.funs(I:Inv X pins σ H s):s.heap.FunFrames X.base X.outer:=by
 have all:∀(l:List Env),(∀b∈kP l,b∈X.fs)->X.s₀.heap.FunFrames X.base l->s.heap.FunFrames X.base l:=by
  intro l
  induction l with
  |nil=>intro _ _;trivial
  |cons env r ih=>
   intro hs R;obtain⟨S,⟨L,o,hf,T,W,hd⟩,U⟩:=R;have Y:L∈X.fs:=hs L (by unfold kP;rw[Oh,hf];exact NF);obtain⟨Q,e⟩:=I.base.slot L o W (I.ok.frf L Y) Y λz=>I.ok.exfs L z Y;exact⟨S,⟨L,_,hf,T,e,hd⟩,ih (λb Z=>hs b (by unfold kP;rw[Oh,hf];exact Nx _ Z)) U⟩
 exact all X.outer (λ_ Z=>Z) I.ok.funs
theorem Inv.stack(I:Inv X pins σ H s):s.heap.FunFrames X.base X.stack:=by
 rcases I.ok.stk with e|⟨e,hf⟩
 ·rw[e];exact I.funs
 ·rw[e];obtain⟨m,Z,_⟩:=I.loc;refine .cons (by rw[I.ok.kind];decide) hf Z ?_ I.funs;exact OZ (Nv I.ok.bsz I.ok.above)
theorem Inv.stkSub(I:Inv X pins σ H s):∀b∈kP X.stack,b∈X.env.locals::X.fs:=λb Z=>by
 rcases I.ok.stk with e|⟨e,hf⟩
 ·rw[e]at Z;exact Nx _ Z
 ·rw[e]at Z;unfold kP at Z;rw[Oh,hf]at Z;exact Z
theorem Inv.stkFree(I:Inv X pins σ H s):∀b∈kP X.stack,H b=none:=λb Z=>by
 rcases NJ.mp (I.stkSub b Z)with e|Z
 ·rw[e];exact I.free
 ·obtain⟨_,o,Y,_⟩:=I.ok.funs.mem Z;exact I.base.free b o Y (I.ok.frf b Z) λz=>I.ok.exfs b z Z
theorem Inv.step{g':Array RW}{t':Nat}{d':Drawn}{ch:List bc}(I:Inv X pins σ H s)
  (U:∀b∈ch,(b∈X.ex\/X.s₀.heap.objs.size<=b)/\b≠X.env.locals/\(∀x c,X.env.cells.lookup x=ar c->c≠b)/\∀p∈X.pn++pins,p.1≠b)
  (keep:∀b o,b≠X.env.locals->b∉X.fs->b∉ch->s.heap.get? b=ar o->H b=none->h'.get? b=ar o)
  (S:∀b o,b≠X.env.locals->b∈X.fs->b∉ch->s.heap.get? b=ar o->H b=none->∃F,h'.get? b=ar {o with slots:=F}) (Y:∀b o,b∉ch->s.heap.get? b=ar o->H b=none->H' b=none)
  (Q:∀b o,b∉ch->s.heap.get? b=ar o->∃J,h'.get? b=ar J)
  (K:∀b xs,H b=ar (.tup xs)->H' b=ar (.tup xs)) (L:∀b o u,H b=ar (.frz o u)->H' b=ar (.frz o u)) (O:∀b G,H b=ar (.tbl G)->∃more,H' b=ar (.tbl (G++more)))
  (ns:∀m,s.heap.Ns X.env.locals m->h'.Ns X.env.locals m) (E:iG X.prog X.w H' h') (h:B' g'):
  Inv X pins σ H' {s with heap:=h',gens:=g',drawn:=d',toks:=t'}:=by
 have N:∀b o,X.s₀.heap.get? b=ar o->b≠X.env.locals:=λb o e=>NB (NC (Nu e) I.ok.above);have T:∀b o,X.s₀.heap.get? b=ar o->b∉X.ex->b∉ch:=λb o e Z R=>by
  rcases (U b R).1 with z|z
  ·exact Z z
  ·exact absurd (NC (Nu e) z) (O0 _)
 have cellK:∀x c,X.env.cells.lookup x=ar c->∀v,s.heap.IsCell c v->h'.IsCell c v:=λx c e v ⟨o,P,hd⟩=>by
  have W:c∉ch:=λz=>(U c z).2.2.1 x c e rfl;by_cases hc:c∈X.fs
  ·obtain⟨F,q⟩:=S c o (I.cne x c e) hc W P (I.freeC x c e);exact⟨_,q,hd⟩
  ·exact⟨o,keep c o (I.cne x c e) hc W P (I.freeC x c e),hd⟩
 refine⟨I.ok,I.os,h,⟨λb o e n R Z=>?_,λb o e n R Z=>?_,λb o e n Z=>?_,λb o e Z=>?_,λb xs e=>K b xs (I.base.tups b xs e),λb o xs e=>L b o xs (I.base.frzs b o xs e),λb G e=>?_⟩,?_,λx c e=>?_,?_,λx c e=>?_,λp B=>?_,E,I.len⟩
 ·exact keep b o (N b o e) R (T b o e Z) (I.base.keep b o e n R Z) (I.base.free b o e n Z)
 ·obtain⟨F,e1⟩:=I.base.slot b o e n R Z;obtain⟨C,e2⟩:=S b _ (N b o e) R (T b o e Z) e1 (I.base.free b o e n Z);exact⟨C,e2⟩
 ·obtain⟨J,e1⟩:=I.base.there b o e Z;exact Y b J (T b o e Z) e1 (I.base.free b o e n Z)
 ·obtain⟨J,e1⟩:=I.base.there b o e Z;exact Q b J (T b o e Z) e1
 ·obtain⟨j,e1⟩:=I.base.tbls b G e;obtain⟨t,e2⟩:=O b _ e1;exact⟨j++t,by rw[e2,Array.append_assoc]⟩
 ·obtain⟨m,g,y⟩:=I.loc;refine⟨m,ns m g,λi x v e1 e2 e3=>?_⟩;obtain⟨u,r,l⟩:=y i x v e1 e2 e3;refine⟨u,r,?_⟩;rcases l with l|⟨k,c,e,z⟩
  ·exact .inl l
  ·exact .inr ⟨k,c,e,cellK x c e _ z⟩
 ·obtain⟨v,z⟩:=I.cell x c e;exact⟨v,cellK x c e v z⟩
 ·obtain⟨m,⟨o,_,_,P,_⟩,_⟩:=I.loc;exact Y _ o (λz=>(U _ z).2.1 rfl) P I.free
 ·obtain⟨v,o,P,hd⟩:=I.cell x c e;exact Y c o (λz=>(U c z).2.2.1 x c e rfl) P (I.freeC x c e)
 ·obtain⟨e,n,ne,A,d⟩:=I.pin p B;have W:p.1∉ch:=λz=>(U p.1 z).2.2.2 p B rfl;exact⟨keep p.1 p.2 ne A W e n,Y p.1 p.2 W e n,ne,A,d⟩
theorem Inv.un{t':Nat}(I:Inv X pins σ H s)(u:Un X.fs [] H H' s.heap h')(U:iG X.prog X.w H' h'):Inv X pins σ H' {s with heap:=h',toks:=t'}:=by
 obtain⟨m,⟨o,es,ep,T,r⟩,_⟩:=id I.loc;obtain⟨P,S⟩:=u.any T I.free (by simp);exact I.step (g':=s.gens) (d':=s.drawn) (ch:=[]) (λ_ z=>nomatch z) (λb o _ Y _ e n=>u.keep b o e n Y (by simp)) (λb o _ Y _ e n=>u.slot b o e n Y (by simp)) (λb o _ e n=>u.free b o e n (by simp)) (λb o _ e=>u.there b o e (by simp)) u.tups u.frzs u.tbls (λQ hm=>by obtain⟨O,es',W,Z,R⟩:=hm;rw[T]at Z;cases Z;exact⟨_,es',W,S,R⟩) U I.bare
theorem Inv.call{g':Array RW}{t':Nat}{d':Drawn}{ch:List bc}(I:Inv X pins σ H s)(u:Un (kP X.stack) ch H H' s.heap h')(S:iG X.prog X.w H' h')(P:B' g')
  (Y:∀b∈ch,(b∈X.ex\/X.s₀.heap.objs.size<=b)/\b≠X.env.locals/\(∀x c,X.env.cells.lookup x=ar c->c≠b)/\∀p∈X.pn++pins,p.1≠b):
  Inv X pins σ H' {s with heap:=h',gens:=g',drawn:=d',toks:=t'}:=by
 obtain⟨m,⟨o,es,ep,R,r⟩,_⟩:=id I.loc;obtain⟨L,U⟩:=u.any R I.free λz=>(Y _ z).2.1 rfl;exact I.step (ch:=ch) Y (λb o U Q Z e n=>u.keep b o e n (λz=>(NJ.mp (I.stkSub b z)).elim U Q) Z) (λb o _ _ Z e n=>u.any e n Z) (λb o Z e n=>u.free b o e n Z) (λb o Z e=>u.there b o e Z) u.tups u.frzs u.tbls (λN hm=>by obtain⟨K,es',T,W,O⟩:=hm;rw[R]at W;cases W;exact⟨_,es',T,U,O⟩) S P
theorem Inv.turned{t':Nat}{it:bc}(I:Inv X pins σ H s)(k:∀b o,b≠it->s.heap.get? b=ar o->h'.get? b=ar o)(P:H it=none)(W:it≠X.env.locals)
  (R:it∈X.ex\/X.s₀.heap.objs.size<=it) (Q:∀x c,X.env.cells.lookup x=ar c->c≠it) (S:∀p∈X.pn++pins,p.1≠it):Inv X pins σ H {s with heap:=h',toks:=t'}:=by
 have Y:∀b u,H b=ar u->b≠it:=λb u e z=>by rw[z,P]at e;cases e
 refine I.step (g':=s.gens) (d':=s.drawn) (ch:=[it]) (λb T=>?_) (λb o _ _ Z e _=>k b o (λz=>Z (by simp[z])) e) (λb o _ _ Z e _=>⟨o.slots,k b o (λz=>Z (by simp[z])) e⟩) (λ_ _ _ _ n=>n)
  (λb o Z e=>⟨o,k b o (λz=>Z (by simp[z])) e⟩) (λ_ _ e=>e) (λ_ _ _ e=>e) (λb O e=>⟨#[],by rw[e];simp⟩) (λm hm=>?_) (λb u e=>?_) I.bare
 ·have e:b=it:=by simpa using T
  subst e;exact⟨R,W,Q,S⟩
 ·obtain⟨o,es,ep,U,r⟩:=hm;exact⟨o,es,ep,k _ o (k_ W) U,r⟩
 ·refine(I.hok b u e).stay (λc v Z q=>k c v ?_ q) (λ_ q=>q) λ_ _ q=>q;rcases Z with z|z
  ·rw[z];exact Y b u e
  ·exact Y c _ z
theorem Inv.tok(I:Inv X pins σ H s)(t:Nat):Inv X pins σ H {s with toks:=t}:=I.un (h':=s.heap) (t':=t) Un.refl I.hok
theorem Inv.kept{t':Nat}(I:Inv X pins σ H s)(k:∀b u,s.heap.get? b=ar u->h'.get? b=ar u):Inv X pins σ H {s with heap:=h',toks:=t'}:=I.un (Un.kept k) (I.hok.kept k)
theorem Inv.laid{a:bc}{o:HO}{t':Nat}(I:Inv X pins σ H s)(k:∀b u,s.heap.get? b=ar u->h'.get? b=ar u)(Y:s.heap.objs.size<=a)(Z:bB X.prog X.w (upd H a o) h' a o):
  Inv X pins σ (upd H a o) {s with heap:=h',toks:=t'}:=I.un (Un.laid k Y (I.hok.fresh Y)) (I.hok.laid k Y Z)
theorem Inv.write{x e:bc}{o:HO}{t':Nat}(I:Inv X pins σ H s)(W:Ly (H x))(U:e=x\/H e=ar (.own x))(k:∀b u,b≠e->s.heap.get? b=ar u->h'.get? b=ar u)(Z:∃u,h'.get? e=ar u)
  (Y:bB X.prog X.w (upd H x o) h' x o):Inv X pins σ (upd H x o) {s with heap:=h',toks:=t'}:=I.un (Un.write W U k Z) (I.hok.write W U k Z Y)
theorem Inv.pins_of{Z:List (bc×Obj)}(I:Inv X pins σ H s)(h:∀p∈Z,s.heap.get? p.1=ar p.2/\H p.1=none/\p.1≠X.env.locals/\p.1∉X.fs/\∀v,p.2.data≠ .cell v):Inv X Z σ H s:=
 ⟨I.ok,I.os,I.bare,I.base,I.loc,I.cell,I.free,I.freeC,λp Y=>(Oj.mp Y).elim (λz=>I.pin p (OL _ z)) (h p),I.hok,I.len⟩
theorem qG{N:List Str}(Z:N.Nodup){i j:Nat}{x:Str}(a:N[i]? =ar x)(b:N[j]? =ar x):i=j:=by obtain⟨W,e1⟩:=Nt.mp a;obtain⟨Y,e2⟩:=Nt.mp b;exact(List.getElem_inj Z).mp (e1.trans e2.symm)
theorem tE{M:S9}{A:gg}{E:aC->b_->Prop}{i:Nat}{x:Str}{v:V}{u:aC}{Q:Unit->b_->Prop}(I:Inv X pins σ H s)(hN:X.N.Nodup)(L:X.N[i]? =ar x)(Y:Loc X.env.scope x)(r:RelV v u)
  (h:∀s',Inv X pins (σ.set i (ar v)) H s'->(∃a,s_ a s.heap s'.heap/\(a=X.env.locals\/X.env.cells.lookup x=ar a))->Q () s') (hf:X.fn x=cn\/X.env.scope.names.lookup x=ar .local:=by first|exact .inl rfl|exact .inr rfl|assumption):ed M A (storeName X.env x u) Q E s:=by
 obtain⟨m,hn,hl⟩:=id I.loc;have K:(X.env.scope.kind== .class||(X.env.scope.kind== .module && X.env.locals !=X.env.globals))=false:=by rw[I.ok.kind];rfl
 have U:i<σ.length:=by rw[I.len];exact(Nt.mp L).1
 have R:=I.cne;have tracked:∀{a:bc} {h':f'},(∃o,s.heap.get? a=ar o/\H a=none)->s_ a s.heap h'->iG X.prog X.w H h':=λ{a h'} ha hs b ob e=>by
  obtain⟨_,_,W⟩:=ha;refine(I.hok b ob e).stay (λc G Z q=>(hs.2 c ?_).trans q) (λ_ q=>q) λ_ _ q=>q;rintro rfl;rcases Z with rfl|Z
  ·rw[W]at e;cases e
  ·rw[W]at Z;cases Z
 rcases Y with hk|hk
 ·refine wpAny_storeName_local hk hn (λh' f hs=>?_) K;obtain⟨oL,_,_,t,_⟩:=id hn;refine h _ ⟨I.ok,I.os,I.bare,⟨λb o e n T Y=>?_,λb o e n T Y=>?_,I.base.free,λb o e Y=>?_,I.base.tups,I.base.frzs,I.base.tbls⟩,⟨_,f,λj y l e1 e2 e3=>?_⟩,λy c e=>?_,I.free,I.freeC,λp hp=>?_,tracked ⟨oL,t,I.free⟩ hs,by simpa using I.len⟩ ⟨_,hs,.inl rfl⟩
  ·exact(hs.2 b (NB (NC (Nu e) I.ok.above))).trans (I.base.keep b o e n T Y)
  ·obtain⟨C,e1⟩:=I.base.slot b o e n T Y;exact⟨C,(hs.2 b (NB (NC (Nu e) I.ok.above))).trans e1⟩
  ·obtain⟨o',e1⟩:=I.base.there b o e Y;exact⟨o',(hs.2 b (NB (NC (Nu e) I.ok.above))).trans e1⟩
  ·by_cases hj:j=i
   ·subst hj;rw[L]at e1;cases e1;rw[NO U]at e2;cases e2;exact⟨u,r,.inl ⟨hk,by simp⟩⟩
   ·rw[Ou (k_ hj)]at e2;obtain⟨B,g,q⟩:=hl j y l e1 e2 e3;refine⟨B,g,?_⟩;rcases q with⟨k,e⟩|⟨k,c,e,z⟩
    ·refine .inl ⟨k,?_⟩;have:y≠x:=λe=>hj (qG hN e1 (e ▸ L));simp[this,e]
    ·exact .inr ⟨k,c,e,z.sameBut hs (R y c e)⟩
  ·obtain⟨G,z⟩:=I.cell y c e;exact⟨G,z.sameBut hs (R y c e)⟩
  ·obtain⟨e,n,ne,nf,d⟩:=I.pin p hp;exact⟨(hs.2 p.1 ne).trans e,n,ne,nf,d⟩
 ·have S:X.fn x=true:=by
   rcases hf with z|z
   ·exact z
   ·rw[z]at hk;cases hk
  obtain⟨c,Z⟩:=I.ok.has x (.inl hk);obtain⟨G,z⟩:=I.cell x c Z;refine wpAny_storeName_cell I.ok.kind hk Z z (λh' P hs=>?_);obtain⟨oc,O,J⟩:=id z;refine h {s with heap:=h'} ⟨I.ok,I.os,I.bare,⟨λb o e n T Y=>?_,λb o e n T Y=>?_,I.base.free,λb o e Y=>?_,I.base.tups,I.base.frzs,I.base.tbls⟩,⟨m,hn.sameBut hs (k_ (R x c Z)),λj y l e1 e2 e3=>?_⟩,λy F e=>?_,I.free,I.freeC,λp hp=>?_,tracked ⟨oc,O,I.freeC x c Z⟩ hs,by simpa using I.len⟩ ⟨c,hs,.inr Z⟩
  ·exact(hs.2 b (NB (NC (Nu e) (I.ok.cab x c S Z)))).trans (I.base.keep b o e n T Y)
  ·obtain⟨C,e1⟩:=I.base.slot b o e n T Y;exact⟨C,(hs.2 b (NB (NC (Nu e) (I.ok.cab x c S Z)))).trans e1⟩
  ·obtain⟨o',e1⟩:=I.base.there b o e Y;exact⟨o',(hs.2 b (NB (NC (Nu e) (I.ok.cab x c S Z)))).trans e1⟩
  ·by_cases hj:j=i
   ·subst hj;rw[L]at e1;cases e1;rw[NO U]at e2;cases e2;exact⟨u,r,.inr ⟨.inl hk,c,Z,P⟩⟩
   ·rw[Ou (k_ hj)]at e2;obtain⟨B,g,q⟩:=hl j y l e1 e2 e3;refine⟨B,g,?_⟩;rcases q with q|⟨k,F,e,z'⟩
    ·exact .inl q
    ·refine .inr ⟨k,F,e,z'.sameBut hs ?_⟩;rintro rfl;exact hj (qG hN e1 (I.ok.inj _ _ _ e Z ▸ L))
  ·by_cases hcc:F=c
   ·subst hcc;exact⟨_,P⟩
   ·obtain⟨w2,z2⟩:=I.cell y F e;exact⟨w2,z2.sameBut hs hcc⟩
  ·obtain⟨e,n,ne,nf,d⟩:=I.pin p hp;refine⟨(hs.2 p.1 ?_).trans e,n,ne,nf,d⟩;intro q;rw[q,O]at e;have q':oc=p.2:=NP e;exact d G (by rw[<-q'];exact J)
theorem jR{M:S9}{A:gg}{E:aC->b_->Prop}{i:Nat}{x:Str}{v:V}{u:aC}{Q:Unit->b_->Prop}(I:Inv X pins σ H s)(T:X.N.Nodup)(Z:X.N[i]? =ar x)(U:Loc X.env.scope x)(r:RelV v u)
  (h:∀s',Inv X pins (σ.set i (ar v)) H s'->Q () s') (Y:X.fn x=cn\/X.env.scope.names.lookup x=ar .local:=by first|exact .inl rfl|exact .inr rfl|assumption):ed M A (storeName X.env x u) Q E s:=
 tE I T Z U r (λs' W _=>h s' W) Y
theorem Inv.call'{s':b_}{ch:List bc}(I:Inv X pins σ H s)(T:s'.os=s.os)(u:Un (kP X.stack) ch H H' s.heap s'.heap)(Y:iG X.prog X.w H' s'.heap)(U:B' s'.gens)
  (Z:∀b∈ch,(b∈X.ex\/X.s₀.heap.objs.size<=b)/\b≠X.env.locals/\(∀x c,X.env.cells.lookup x=ar c->c≠b)/\∀p∈X.pn++pins,p.1≠b):Inv X pins σ H' s':=by
 obtain⟨h',g',d',t',W⟩:=s';have e:W=s.os:=T;subst e;exact I.call (g':=g') (t':=t') (d':=d') u Y U Z
end
abbrev XK:=aC->Option bc->Hp->Prop
abbrev St:=List (Option V)
abbrev VK:=V->Hp->Prop
abbrev TE:=St->Hp->VK->Prop
abbrev TT:=St->Hp->(Bool->Hp->Prop)->Prop
abbrev TA:=St->Hp->(List V->Hp->Prop)->Prop
structure Ends where
 nx:St->Hp->Prop
 rt:VK
 bk:St->Hp->Prop:=λ_ _=>False
 ct:St->Hp->Prop:=λ_ _=>False
abbrev TS:=Ends->St->Hp->Prop
def EP(X:Cx)(pins:List (bc×Obj))(σ:St)(Q:VK)(u:aC)(s':b_):Prop:=∃v H',Inv X pins σ H' s'/\RelV v u/\Q v H'
def TP(X:Cx)(pins:List (bc×Obj))(σ:St)(Q:Bool->Hp->Prop)(b:Bool)(s':b_):Prop:=∃H',Inv X pins σ H' s'/\Q b H'
def AP(X:Cx)(pins:List (bc×Obj))(σ:St)(Q:List V->Hp->Prop)(us:List aC)(s':b_):Prop:=∃vs H',Inv X pins σ H' s'/\bg vs us/\Q vs H'
def SP(X:Cx)(pins:List (bc×Obj))(D:Ends)(f:Flow)(s':b_):Prop:=
 match f with
 | .next=>∃ σ' H',Inv X pins σ' H' s'/\D.nx σ' H'
 | .brk=>∃ σ' H',Inv X pins σ' H' s'/\D.bk σ' H'
 | .cont=>∃ σ' H',Inv X pins σ' H' s'/\D.ct σ' H'
 | .ret u=>∃v σ' H',Inv X pins σ' H' s'/\RelV v u/\D.rt v H'
def PE(X:Cx)(e:Expr)(t:TE):Prop:=
 ∀(pins:List (bc×Obj)) (s:b_) (σ:St) (H:Hp) (Q:VK),Inv X pins σ H s->t σ H Q->ed (fb X.prog X.w) X.A (hO e X.env) (EP X pins σ Q) X.xe s
def PT(X:Cx)(e:Expr)(t:TT):Prop:=
 ∀(pins:List (bc×Obj)) (s:b_) (σ:St) (H:Hp) (Q:Bool->Hp->Prop),Inv X pins σ H s->t σ H Q->ed (fb X.prog X.w) X.A (isTrue e X.env (hO e X.env)) (TP X pins σ Q) X.xe s
def PW(X:Cx)(e:Expr)(t:TT):Prop:=
 ∀(whole:Sem aC) (pins:List (bc×Obj)) (s:b_) (σ:St) (H:Hp) (Q:Bool->Hp->Prop),Inv X pins σ H s->t σ H Q->ed (fb X.prog X.w) X.A (isTrue e X.env whole) (TP X pins σ Q) X.xe s
theorem PW.pt{X:Cx}{e:Expr}{t:TT}(h:PW X e t):PT X e t:=h _
def PA(X:Cx)(es:List Expr)(t:TA):Prop:=
 ∀(pos:Pos) (pins:List (bc×Obj)) (s:b_) (σ:St) (H:Hp) (Q:List V->Hp->Prop),Inv X pins σ H s->t σ H Q->ed (fb X.prog X.w) X.A (spliced (wd pos (dV es X.env))) (AP X pins σ Q) X.xe s
def PS(X:Cx)(st:p_)(t:TS):Prop:=
 ∀(pins:List (bc×Obj)) (s:b_) (σ:St) (H:Hp) (D:Ends),Inv X pins σ H s->t D σ H->ed (fb X.prog X.w) X.A (exec st X.env) (SP X pins D) X.xe s
def qH(X:Cx)(st:List p_)(t:TS):Prop:=
 ∀(pins:List (bc×Obj)) (s:b_) (σ:St) (H:Hp) (D:Ends),Inv X pins σ H s->t D σ H->ed (fb X.prog X.w) X.A (execs st X.env) (SP X pins D) X.xe s
theorem dJ{α:Type}{t:Sem α}{Q Z:α->b_->Prop}{M:S9}{A:gg}{E:aC->b_->Prop}{s:b_}(h:ed M A t Q E s)(Y:∀a s,Q a s->Z a s):ed M A t Z E s:=Oc h Y λ_ _ x=>x
section
variable {X:Cx}
def xT(i:Nat):TE:=λσ H Q=>∃v,σ[i]? =ar (ar v)/\Q v H
def tC(v:V):TE:=λ_ H Q=>Q v H
theorem mM{i:Nat}{x:Str}{pos:Pos}(T:X.N[i]? =ar x)(W:GT X.env.scope x)(Z:(x==("__debug__":Str))=false:=by decide)(Y:(x==("__classdict__":Str))=false:=by decide):PE X (.Name x pos) (xT i):=by
 intro pins s σ H Q I h;obtain⟨v,e,h⟩:=h;obtain⟨m,U,S⟩:=I.loc;obtain⟨u,r,l⟩:=S i x v T e W;have fin:EP X pins σ Q u s:=⟨v,H,I,r,h⟩;rcases l with⟨hk,hm⟩|⟨hk,c,hc,hcell⟩
 ·exact S_ (wpAny_loadName_local I.ok.kind hk U hm fin) Z
 ·rcases hk with hk|hk
  ·exact S_ (wpAny_loadName_cell I.ok.kind hk hc hcell fin) Z
  ·exact S_ (wpAny_loadName_free I.ok.kind hk hc hcell fin Y) Z
theorem Ck{i j pos}:PE X (.Constant (.int i) j pos) (tC (.int i)):=λ_ _ _ H _ I h=>wpAny_Constant_int ⟨.int i,H,I.tok _,⟨_,rfl⟩,h⟩
theorem J1{b j pos}:PE X (.Constant (.bool b) j pos) (tC (.bl b)):=λ_ _ _ H _ I h=>Constant_bool ⟨.bl b,H,I,rfl,h⟩
theorem Hj{j pos}:PE X (.Constant .none j pos) (tC .non):=λ_ _ _ H _ I h=>Constant_none ⟨.non,H,I,rfl,h⟩
theorem Hk{x j pos}:PE X (.Constant (.str x) j pos) (tC (.str x)):=λ_ _ _ H _ I h=>Calls.Constant_str ⟨.str x,H,I.tok _,⟨_,rfl⟩,h⟩
def Gl(X:Cx)(x:Str):Prop:=X.env.kindOf x=ar .globalImplicit
theorem ny{E:aC->b_->Prop}{Z:List (bc×Obj)}{s:b_}{U:St}{H:Hp}{x:Str}{u:aC}{pos:Pos}{Q:aC->b_->Prop}(I:Inv X Z U H s)(Y:Gl X x)(W:X.mg x=ar u)(h:Q u s)
  (T:(x==("__debug__":Str))=false:=by decide):ed (fb X.prog X.w) X.A (hO (.Name x pos) X.env) Q E s:=
 QU I.ok.kind Y (Calls.loadGlobal_global (by rw[I.ok.glob];exact I.mod.glob.keeps I.bk) W h) T
theorem mO{E:aC->b_->Prop}{Z:List (bc×Obj)}{s:b_}{O:St}{H:Hp}{x:Str}{u:aC}{pos:Pos}{Q:aC->b_->Prop}(I:Inv X Z O H s)(T:Gl X x)(R:X.mg x=none)(Y:lz x=ar u)(h:Q u s)
  (P:x≠"__name__":=by decide) (W:(x==("__debug__":Str))=false:=by decide):ed (fb X.prog X.w) X.A (hO (.Name x pos) X.env) Q E s:=by
 obtain⟨N,U,S⟩:=I.mod.blt;exact QU I.ok.kind T (Calls.loadGlobal_builtin (by rw[I.ok.glob];exact I.mod.glob.keeps I.bk) R (by rw[I.ok.blt];exact U.keeps I.bk) ((S x P).trans Y) h) W
theorem zx{x:Str}{v:V}{u:aC}{pos:Pos}(Z:Gl X x)(Y:X.mg x=ar u)(r:RelV v u)(W:(x==("__debug__":Str))=false:=by decide):PE X (.Name x pos) (tC v):=
 λ_ _ _ H _ I h=>ny I Z Y ⟨v,H,I,r,h⟩ W
theorem qb{x:Str}{v:V}{u:aC}{pos:Pos}(Y:Gl X x)(W:X.mg x=none)(Z:lz x=ar u)(r:RelV v u)(U:x≠"__name__":=by decide)(T:(x==("__debug__":Str))=false:=by decide):PE X (.Name x pos) (tC v):=
 λ_ _ _ H _ I h=>mO I Y W Z ⟨v,H,I,r,h⟩ U T
variable {a b:Expr}{ta tb:TE}{pos:Pos}
theorem qI(b:Expr){op:Tt}(h:op≠ .In)(Z:op≠ .NotIn):mh op b=false:=by
 have e1:(op==CmpOp.In)=false:=by cases op<;>first|rfl|exact absurd rfl h
 have e2:(op==CmpOp.NotIn)=false:=by cases op<;>first|rfl|exact absurd rfl Z
 cases b<;>simp[mh,e1,e2]
def tB(t:TE):TT:=λσ H Q=>t σ H λx H1=>∃c,x= .bl c/\Q c H1
theorem Hl{e:Expr}{t:TE}(h:PE X e t)(Z:∀whole,isTrue e X.env whole=(do let v<-whole;M' e.pos;y' [v] (truthy v)):=by intro _;rfl):PT X e (tB t):=by intro pins s σ H Q I hw;refine isTrue_plain (dJ (h pins s σ H _ I hw) λv s1 ⟨x,H1,I1,r1,q1⟩=>?_) (Z _);obtain⟨d,rfl,q⟩:=q1;cases r1;exact OG ⟨H1,I1,q⟩
variable {tA tB':TT}{rest:List Expr}
def L3(t u:TT):TT:=λσ H Q=>t σ H λc H1=>if c=cn then u σ H1 Q else Q dt H1
def MZ(t u:TT):TT:=λσ H Q=>t σ H λc H1=>if c=cn then Q cn H1 else u σ H1 Q
def L4(t:TT):TT:=λσ H Q=>t σ H λc H1=>Q (!c) H1
theorem E9(Z:PT X a tA):PW X (.BoolOp .And [a] pos) tA:=by
 intro Y pins s σ H Q I h;refine isTrue_and (dJ (Z pins s σ H Q I h) λc s1 e=>?_);cases c with
 |true=>exact isTrue_and_nil e
 |false=>exact e
theorem Hm(Z:PT X a tA):PW X (.BoolOp .Or [a] pos) tA:=by
 intro Y pins s σ H Q I h;refine isTrue_or (dJ (Z pins s σ H Q I h) λc s1 e=>?_);cases c with
 |false=>exact isTrue_or_nil e
 |true=>exact e
theorem Hn(W:PT X a tA)(Y:PW X (.BoolOp .And (b::rest) pos) tB'):PW X (.BoolOp .And (a::b::rest) pos) (L3 tA tB'):=by
 intro Z pins s σ H Q I h;refine isTrue_and (dJ (W pins s σ H _ I h) λc s1 ⟨H1,I1,q1⟩=>?_);cases c with
 |true=>exact Y Z pins s1 σ H1 Q I1 q1
 |false=>exact⟨H1,I1,q1⟩
theorem J2(W:PT X a tA)(Y:PW X (.BoolOp .Or (b::rest) pos) tB'):PW X (.BoolOp .Or (a::b::rest) pos) (MZ tA tB'):=by
 intro Z pins s σ H Q I h;refine isTrue_or (dJ (W pins s σ H _ I h) λc s1 ⟨H1,I1,q1⟩=>?_);cases c with
 |true=>exact⟨H1,I1,q1⟩
 |false=>exact Y Z pins s1 σ H1 Q I1 q1
theorem Ho(Y:PT X a tA):PT X (.UnaryOp .Not a pos) (L4 tA):=by intro pins s σ H Q I h;exact isTrue_not (Y pins s σ H (λc Z=>Q (!c) Z) I h)
def J3(ta tb:TE):TE:=λσ H Q=>ta σ H λx H1=>∃c,x= .bl c/\if c=cn then tb σ H1 Q else Q (.bl dt) H1
def J4(ta:TE):TE:=λσ H Q=>ta σ H λx H1=>∃c,x= .bl c/\Q (.bl (!c)) H1
theorem Hq{op}{t:TE}(h:PE X a t):PE X (.BoolOp op [a] pos) t:=λpins s σ H Q I hw=>BoolOp_one (h pins s σ H Q I hw)
theorem Hr(W:PE X a ta)(Y:PE X (.BoolOp .And (b::rest) pos) tb):PE X (.BoolOp .And (a::b::rest) pos) (J3 ta tb):=by
 intro pins s σ H Q I h;refine BoolOp_and (dJ (W pins s σ H _ I h) λv s1 ⟨x,H1,I1,r1,Z⟩=>?_);obtain⟨c,rfl,Z⟩:=Z;cases r1;refine OG ?_;cases c with
 |true=>exact Y pins s1 σ H1 Q I1 Z
 |false=>exact⟨.bl dt,H1,I1,rfl,Z⟩
theorem Hs(Y:PE X a ta):PE X (.UnaryOp .Not a pos) (J4 ta):=by intro pins s σ H Q I h;refine UnaryOp_ (dJ (Y pins s σ H _ I h) λv s1 ⟨x,H1,I1,r1,Z⟩=>?_);obtain⟨c,rfl,Z⟩:=Z;cases r1;exact not_of (OG ⟨.bl (!c),H1,I1,rfl,Z⟩)
end
def kS(K:c_)(H:Hp)(a:bc)(xs:List V):Prop:=
 Rd H a (.lst xs)\/
  ∃(o:Obj) (its:Array aC) (n:Nat),K.lookup a=ar o/\o.cls= .type "list"/\o.dict=none/\o.data= .seq its n/\its.size<=sizeLine/\bg xs its.toList
def ot(K:c_)(H:Hp)(a:bc)(xs:List V):Prop:=
 Rd H a (.tup xs)\/
  ∃(o:Obj) (its:Array aC) (n:Nat),K.lookup a=ar o/\o.cls= .type "tuple"/\o.data= .seq its n/\its.size<=sizeLine/\bg xs its.toList
def L5:aC->Option V
 | .none=>ar .non
 | .bool b=>ar (.bl b)
 | .int i _=>ar (.int i)
 | .str x _=>ar (.str x)
 | .bytes b _=>ar (.byt b)
 | .float b _=>ar (.flt b)
 | .ref a=>ar (.ref a)
 | .type n=>ar (.ty n)
 |_=>none
theorem RelV.abs{x:V}{u:aC}(r:RelV x u):L5 u=ar x:=by
 cases x with
 |non=>cases r;rfl
 |bl _=>cases r;rfl
 |int _=>obtain⟨t,rfl⟩:=r;rfl
 |str _=>obtain⟨t,rfl⟩:=r;rfl
 |byt _=>obtain⟨t,rfl⟩:=r;rfl
 |flt _=>obtain⟨t,rfl⟩:=r;rfl
 |ref _=>cases r;rfl
 |ty _=>cases r;rfl
theorem RelV.inj{x y:V}{u:aC}(r:RelV x u)(q:RelV y u):x=y:=NP (r.abs.symm.trans q.abs)
theorem bg.inj:∀{xs ys:List V} {us:List aC},bg xs us->bg ys us->xs=ys
 |_,_,_,.nil,.nil=>rfl
 |_,_,_,.cons r t,.cons r' t'=>by rw[r.inj r',bg.inj t t']
section
variable {X:Cx}{pins:List (bc×Obj)}{σ:St}{H:Hp}{s:b_}{a:bc}{xs ys:List V}
theorem kS.of{K:c_}(h:H a=ar (.lst xs)):kS K H a xs:=.inl (.inl h)
theorem ot.of{K:c_}(h:H a=ar (.tup xs)):ot K H a xs:=.inl (.inl h)
theorem Inv.list(I:Inv X pins σ H s)(h:kS X.K H a xs):∃its:List aC,bg xs its/\PlainL s.heap a its.toArray/\xs.length<=sizeLine:=by
 rcases h with h|⟨o,its,n,hk,hc,hd,hs,hz,r⟩
 ·obtain⟨z,its,n,r,e⟩:=h.ok I.hok;exact⟨its,r,⟨_,n,e,rfl,rfl,rfl⟩,z⟩
 ·refine⟨its.toList,r,⟨o,n,I.kIn a o hk,hc,hd,by simpa using hs⟩,?_⟩;have e:=r.length;simp only[G']at e;omega
theorem Inv.tuple(I:Inv X pins σ H s)(h:ot X.K H a xs):∃its:List aC,bg xs its/\Tq s.heap a its.toArray/\xs.length<=sizeLine:=by
 rcases h with h|⟨o,its,n,hk,hc,hs,hz,r⟩
 ·obtain⟨z,its,r,p⟩:=h.ok I.hok;exact⟨its,r,p,z.1⟩
 ·refine⟨its.toList,r,⟨o,I.kIn a o hk,hc,n,by simpa using hs⟩,?_⟩;have e:=r.length;simp only[G']at e;omega
theorem Inv.list_inj(I:Inv X pins σ H s)(h:kS X.K H a xs)(h':kS X.K H a ys):xs=ys:=by
 obtain⟨its,r,⟨o,n,e,_,_,d⟩,_⟩:=I.list h;obtain⟨its',Y,⟨W,U,Z,_,_,d'⟩,_⟩:=I.list h';rw[e]at Z;cases Z;rw[d]at d';injection d' with d1 _;have:its=its':=by simpa using QL Array.toList d1
 subst this;exact r.inj Y
theorem Inv.tuple_inj(I:Inv X pins σ H s)(h:ot X.K H a xs)(h':ot X.K H a ys):xs=ys:=by
 obtain⟨its,r,⟨o,e,_,n,d⟩,_⟩:=I.tuple h;obtain⟨its',Y,⟨W,Z,_,U,d'⟩,_⟩:=I.tuple h';rw[e]at Z;cases Z;rw[d]at d';injection d' with d1 _;have:its=its':=by simpa using QL Array.toList d1
 subst this;exact r.inj Y
end
abbrev Cx.wish(X:Cx)(E:aC->b_->Prop):Cx:={X with xe:=E}
abbrev Cx.nox(X:Cx):Cx:=X.wish λ_ _=>False
theorem Cx.Ok.wish{X:Cx}(Z:X.Ok)(E:aC->b_->Prop):(X.wish E).Ok:=
 ⟨Z.mod,Z.kind,Z.glob,Z.blt,Z.above,Z.inj,Z.has,Z.cab,Z.hd,Z.frames,Z.stk,Z.exf,Z.bs,Z.bsz,Z.noex,Z.exfs,Z.funs,Z.frf⟩
theorem Cx.Ok.unwish{X:Cx}{E:aC->b_->Prop}(Z:(X.wish E).Ok):X.Ok:=
 ⟨Z.mod,Z.kind,Z.glob,Z.blt,Z.above,Z.inj,Z.has,Z.cab,Z.hd,Z.frames,Z.stk,Z.exf,Z.bs,Z.bsz,Z.noex,Z.exfs,Z.funs,Z.frf⟩
section
variable {X:Cx}{pins:List (bc×Obj)}{σ:St}{H:Hp}{s:b_}{E:aC->b_->Prop}
theorem Inv.wish(I:Inv X pins σ H s)(E:aC->b_->Prop):Inv (X.wish E) pins σ H s:=⟨I.ok.wish E,I.os,I.bare,I.base,I.loc,I.cell,I.free,I.freeC,I.pin,I.hok,I.len⟩
theorem Inv.unwish(I:Inv (X.wish E) pins σ H s):Inv X pins σ H s:=⟨I.ok.unwish,I.os,I.bare,I.base,I.loc,I.cell,I.free,I.freeC,I.pin,I.hok,I.len⟩
theorem SP.unwish{D:Ends}{f:Flow}{s':b_}(h:SP (X.wish E) pins D f s'):SP X pins D f s':=by
 cases f with
 |next=>obtain⟨Z,Y,I,q⟩:=h;exact⟨Z,Y,I.unwish,q⟩
 |brk=>obtain⟨Z,Y,I,q⟩:=h;exact⟨Z,Y,I.unwish,q⟩
 |cont=>obtain⟨Z,Y,I,q⟩:=h;exact⟨Z,Y,I.unwish,q⟩
 |ret u=>obtain⟨v,Z,Y,I,r,q⟩:=h;exact⟨v,Z,Y,I.unwish,r,q⟩
theorem qH.nox{Z:List p_}{t:TS}(h:qH X.nox Z t):qH X Z t:=λpins s σ H D I hw=>
 Oc (h pins s σ H D (I.wish _) hw) (λ_ _ q=>q.unwish) λ_ _ z=>j_ z
end
section
variable {X:Cx}{st:p_}{rest:List p_}{t u:TS}{e:Expr}{te:TE}{pos:Pos}
def J5:TS:=λD σ H=>D.nx σ H
def L6(t u:TS):TS:=λD σ H=>t {D with nx:=u D} σ H
theorem Fb:qH X [] J5:=λ_ _ σ H _ I h=>PJ ⟨σ,H,I,h⟩
theorem vU(T:PS X st t)(Y:qH X rest u):qH X (st::rest) (L6 t u):=by
 intro pins s σ H D I h;refine PZ (dJ (T pins s σ H {D with nx:=u D} I h) λf s1 q=>?_);cases f with
 |next=>
  obtain⟨Z,U,W,q⟩:=q;exact Y pins s1 Z U D W q
 |ret v=>exact q
 |brk=>exact q
 |cont=>exact q
theorem zy(Z:PS X st t):qH X [st] t:=by
 intro pins s σ H D I h;refine PZ (dJ (Z pins s σ H D I h) λf s1 q=>?_);cases f with
 |next=>exact PJ q
 |ret v=>exact q
 |brk=>exact q
 |cont=>exact q
theorem Inv.quiet{Z:List (bc×Obj)}{Y:St}{H:Hp}{s:b_}(I:Inv X Z Y H s):interactive X.env=false:=by simp[interactive,I.ok.kind]
def J6(te:TE):TS:=λD σ H=>te σ H λ_ H1=>D.nx σ H1
theorem Fc(Z:PE X e te)(hs:m_ e none pos.line X.env=a_ false:=by rfl):PS X (.Expr e pos) (J6 te):=by intro pins s σ H D I h;exact RG (dJ (Z pins s σ H _ I h) λv s1 ⟨x,H1,I1,r1,q1⟩=>⟨σ,H1,I1,q1⟩) I.quiet hs
def L7(te:TE):TS:=λD σ H=>te σ H D.rt
theorem Ht(Z:PE X e te):PS X (.Return (ar e) pos) (L7 te):=by intro pins s σ H D I h;exact wpAny_Return_some (dJ (Z pins s σ H _ I h) λv s1 ⟨x,H1,I1,r1,q1⟩=>⟨x,σ,H1,I1,r1,q1⟩)
def L8(c:TT)(t u:TS):TS:=λD σ H=>c σ H λb H1=>if b=cn then t D σ H1 else u D σ H1
theorem GU{c:Expr}{a b:List p_}{Z:TT}(W:PT X c Z)(U:qH X a t)(Y:qH X b u):PS X (.If c a b pos) (L8 Z t u):=by
 intro pins s σ H D I h;refine wpAny_If (dJ (W pins s σ H _ I h) λd s1 ⟨H1,I1,q1⟩=>?_);cases d with
 |true=>exact U pins s1 σ H1 D I1 q1
 |false=>exact Y pins s1 σ H1 D I1 q1
end
abbrev TG:=V->St->Hp->(St->Hp->Prop)->Prop
abbrev EY:=List V->St->Hp->(St->Hp->Prop)->Prop
def PG(X:Cx)(target:Expr)(t:TG):Prop:=
 ∀(pins:List (bc×Obj)) (s:b_) (σ:St) (H:Hp) (v:V) (u:aC) (Q:St->Hp->Prop),Inv X pins σ H s->RelV v u->t v σ H Q->
  ed (fb X.prog X.w) X.A (RQ target X.env u) (λ_ s'=>∃ σ' H',Inv X pins σ' H' s'/\Q σ' H') X.xe s
def Cm(X:Cx)(ts:List Expr)(t:EY):Prop:=
 ∀(pins:List (bc×Obj)) (s:b_) (σ:St) (H:Hp) (vs:List V) (us:List aC) (Q:St->Hp->Prop),Inv X pins σ H s->bg vs us->t vs σ H Q->
  ed (fb X.prog X.w) X.A (Se ((m1 ts X.env).map (·.2)) us) (λ_ s'=>∃ σ' H',Inv X pins σ' H' s'/\Q σ' H') X.xe s
abbrev Fd:=V->V->V->Hp->(Hp->Prop)->Prop
def J7(X:Cx)(t:Fd):Prop:=
 ∀(pins:List (bc×Obj)) (s:b_) (σ:St) (H:Hp) (o i v:V) (ov iv u:aC) (Q:Hp->Prop),Inv X pins σ H s->RelV o ov->RelV i iv->RelV v u->t o i v H Q->
  ed (fb X.prog X.w) X.A (Ua ov iv u) (λ_ s'=>∃H',Inv X pins σ H' s'/\Q H') X.xe s
section
variable {X:Cx}{pos:Pos}
def Cn(i:Nat):TG:=λv σ H Q=>Q (σ.set i (ar v)) H
theorem Fe{i:Nat}{x:Str}(U:X.N.Nodup)(W:X.N[i]? =ar x)(T:Loc X.env.scope x)(Z:X.fn x=cn\/X.env.scope.names.lookup x=ar .local:=by first|exact .inl rfl|exact .inr rfl|assumption):PG X (.Name x pos) (Cn i):=by intro pins s σ H v u Q I r h;exact wpAny_assign_Name (jR I U W T r (λs' Y=>⟨_,H,Y,h⟩) Z)
def L9:EY:=λvs σ H Q=>vs=[]/\Q σ H
def J8(t:TG)(u:EY):EY:=λvs σ H Q=>∃v r,vs=v::r/\t v σ H λσ' H'=>u r σ' H' Q
theorem Ff:Cm X [] L9:=by intro pins s σ H vs us Q I r h;obtain⟨e,h⟩:=h;subst e;cases r;exact assignInOrder_nil ⟨σ,H,I,h⟩
theorem Co{e:Expr}{es:List Expr}{t:TG}{u:EY}(Z:PG X e t)(Y:Cm X es u)
  (hs:(m1 (e::es) X.env).map (·.2)=RQ e X.env::(m1 es X.env).map (·.2):=by rfl):Cm X (e::es) (J8 t u):=by
 intro pins s σ H vs us Q I r h;obtain⟨v,W,e1,h⟩:=h;subst e1;cases r with
 |cons r rr=>
  rw[hs];refine QX (dJ (Z pins s σ H _ _ _ I r h) λ_ s1 ⟨σ1,H1,I1,q1⟩=>?_);exact Y pins s1 σ1 H1 _ _ Q I1 rr q1
def Ma(K:c_)(n:Nat)(t:EY):TG:=λv σ H Q=>∃a xs,v= .ref a/\ot K H a xs/\xs.length=n/\t xs σ H Q
theorem Hu{es:List Expr}{k:Nat}{t:EY}{n:Nat}(T:X.calm=cn)(h:Cm X es t)
  (S:(m1 es X.env).length=n:=by rfl) (Z:(m1 es X.env).findIdx? (·.1)=none:=by rfl):PG X (.Tuple es k pos) (Ma X.K n t):=by
 intro pins s σ H v u Q I r hw;obtain⟨a,xs,e1,W,O,hw⟩:=hw;subst e1;cases r;obtain⟨its,Y,R,N⟩:=I.tuple W;refine assign_Tuple_tuple (I.ok.hd T) R (by simp[S, <-O,Y.length]) Z λh' P=>?_;have U:Inv X pins σ H {s with heap:=h'}:=I.kept (t':=s.toks) λb o e=>P b o (NB (Nu e)) e;exact h pins _ σ H xs _ Q U (by simpa using Y) hw
def Mb(to ti:TE)(t:Fd):TG:=λv σ H Q=>to σ H λo H1=>ti σ H1 λi H2=>t o i v H2 λH3=>Q σ H3
theorem Hv{o i:Expr}{Z Y:TE}{t:Fd}(W:PE X o Z)(T:PE X i Y)(hs:J7 X t)
  (U:∀v,RQ (.Subscript o i pos) X.env v=(do
   let ov<-y' [v] (hO o X.env);let iv<-y' [v,ov] (hO i X.env)
   M' pos
   y' [v,ov,iv] (Ua ov iv v)
   release [v,ov,iv] []):=by intro _;rfl):PG X (.Subscript o i pos) (Mb Z Y t):=by
 intro pins s σ H v u Q I r h;rw[U];refine Nk (Oi (dJ (W pins s σ H _ I h) λov s1 ⟨x,H1,I1,r1,q1⟩=>?_));refine Nk (Oi (dJ (T pins s1 σ H1 _ I1 q1) λiv s2 ⟨y,H2,I2,r2,q2⟩=>?_));refine Nk (Pa (Nk (Oi (dJ (hs pins s2 σ H2 x y v ov iv u _ I2 r1 r2 r q2) λ_ s3 ⟨H3,I3,q3⟩=>?_))));exact wpAny_release ⟨σ,H3,I3,q3⟩
def Hw(te:TE)(g:TG):TS:=λD σ H=>te σ H λx H1=>g x σ H1 D.nx
theorem Hx{Z e:Expr}{te:TE}{g:TG}(U:PE X e te)(W:PG X Z g)(hs:P_ [Z] e pos.line X.env=a_ false:=by rfl)(T:QO [Z] e X.env=a_ none:=by rfl)
  (Y:(m1 [Z] X.env).map (·.2)=[RQ Z X.env]:=by rfl):PS X (.Assign [Z] e pos) (Hw te g):=by
 intro pins s σ H D I h;refine wpAny_Assign_stores (dJ (U pins s σ H _ I h) λv s1 ⟨x,H1,I1,r1,q1⟩=>?_) hs T;rw[Y];exact dJ (W pins s1 σ H1 x v _ I1 r1 q1) λ_ s2 q=>q
theorem Cp{i:Nat}{x:Str}{e:Expr}{te:TE}{pos':Pos}(U:X.N.Nodup)(W:X.N[i]? =ar x)(S:Loc X.env.scope x)(T:PE X e te)(hs:m_ e (ar (.Name x pos')) pos.line X.env=a_ false:=by rfl)(Z:X.fn x=cn\/X.env.scope.names.lookup x=ar .local:=by first|exact .inl rfl|exact .inr rfl|assumption):
  PS X (.Assign [.Name x pos'] e pos) (Hw te (Cn i)):=by
 intro pins s σ H D I h;refine wpAny_Assign_Name (dJ (T pins s σ H _ I h) λv s1 ⟨y,H1,I1,r1,q1⟩=>?_) hs;exact jR I1 U W S r1 (λs2 Y=>⟨_,H1,Y,q1⟩) Z
def Mc(i j:Nat)(ta:TA):TS:=λD σ H=>ta σ H λvs H1=>∃v w,vs=[v,w]/\D.nx ((σ.set i (ar v)).set j (ar w)) H1
theorem Hy{i j:Nat}{x y:Str}{a b:Expr}{L:TA}{P Q U:Pos}{kt k2 pt2}(E:X.calm=cn)(K:X.N.Nodup)(r:X.N[i]? =ar x)(F:X.N[j]? =ar y)(R:i≠j)
  (J:X.env.scope.names.lookup x=ar .local) (G:X.env.scope.names.lookup y=ar .local) (u:PA X [a,b] L)
  (n:QO [.Tuple [.Name x P,.Name y Q] kt U] (.Tuple [a,b] k2 pt2) X.env=a_ (ar [x,y]))
  (hs:P_ [.Tuple [.Name x P,.Name y Q] kt U] (.Tuple [a,b] k2 pt2) pos.line X.env=a_ false:=by rfl):
  PS X (.Assign [.Tuple [.Name x P,.Name y Q] kt U] (.Tuple [a,b] k2 pt2) pos) (Mc i j L):=by
 intro pins s σ H D I h;rw[exec_Assign_arm];refine Nk (Pa ?_);rw[hs];refine Nk (Nr ?_);rw[if_neg (by decide)];refine Nk (Tuple_ (dJ (u _ pins s σ H _ I h) λus s1 ⟨vs,H1,I1,r1,S⟩=>?_));obtain⟨v,w,e1,S⟩:=S;subst e1;obtain⟨Y,Z,rfl,B,W⟩:∃Y Z,us=[Y,Z]/\RelV v Y/\RelV w Z:=by
  cases r1 with
  | cons p q=>
   cases q with
   |cons p' q'=>
    cases q';exact⟨_,_,rfl,p,p'⟩
 refine Od ?_ (by show 2<=sizeLine;decide);have t:Inv X pins σ H1 {s1 with heap:=s1.heap.push {cls:=.type "tuple",data:=.seq [Y,Z].toArray}}:=I1.kept (t':=s1.toks) λb o e=>Nm _ e;rw[n];refine Nk (Nr ?_);show ed (fb X.prog X.w) X.A (do rule "assign.swapped-stores";let items<-unpackItems (.ref s1.heap.objs.size) 2 none;Se [λv=>Sn X.env y v,λv=>Sn X.env x v] items.reverse;a_ Flow.next) _ _ _;refine Nk (P6 (Nk (unpackItems_tuple (items:= #[Y,Z]) (I.ok.hd E) (Sz s1.heap _) λh' T=>?_)));have C:=t.kept (h':=h') (t':=s1.toks) λb o e=>T b o (NB (Nu e)) e;show ed _ _ (Se [λv=>Sn X.env y v,λv=>Sn X.env x v] [Z,Y]>>=λ_=>a_ Flow.next) _ _ _;refine Nk (QX (wpAny_bindName (jR C K F (.inl G) W (λs2 z=>?_) (.inr G))));refine QX (wpAny_bindName (jR z K r (.inl J) B (λs3 O=>assignInOrder_nil (Nr ?_)) (.inr J)));rw[List.set_comm _ _ (k_ R)]at O;exact⟨_,H1,O,S⟩
def Hz(c:TT)(tb:TS):TS:=λD σ H=>∃W:Nat->St->Hp->Prop,(∃m,W m σ H)/\∀m σ H,W m σ H->
 c σ H λb H1=>if b=cn then ∃N:St->Hp->Prop,(∀ σ' H',N σ' H'->∃m',m'<m/\W m' σ' H')/\tb {D with nx:=N,ct:=N,bk:=D.nx} σ H1 else D.nx σ H1
theorem Cq{c:Expr}{body:List p_}{L:TT}{tb:TS}(O:R9 (fb X.prog X.w) X.A X.env X.xe)(G:PT X c L)(J:qH X body tb):PS X (.While c body [] pos) (Hz L tb):=by
 intro pins s σ H D I h;obtain⟨W,⟨m0,w0⟩,turn⟩:=h;refine wpAny_While (codeAny_whileLoop (λn s'=>∃ σ' H',Inv X pins σ' H' s'/\W n σ' H') ?_ m0 ⟨σ,H,I,w0⟩);rintro n s1 ⟨σ1,H1,I1,w1⟩;refine Pg O (dJ (G pins s1 σ1 H1 _ I1 (turn n σ1 H1 w1)) λb s2 ⟨H2,I2,T⟩=>?_);cases b with
 | true=>
  obtain⟨N,K,T⟩:=T;rw[if_pos rfl];refine Pg O (dJ (J pins s2 σ1 H2 _ I2 T) λf s3 U=>?_);cases f with
  |next=>
   obtain⟨Z,Y,R,Q⟩:=U;obtain⟨S,hm,P⟩:=K Z Y Q;exact⟨S,hm,Z,Y,R,P⟩
  |cont=>
   obtain⟨Z,Y,R,Q⟩:=U;obtain⟨S,hm,P⟩:=K Z Y Q;exact⟨S,hm,Z,Y,R,P⟩
  |brk=>exact U
  |ret v=>exact U
 |false=>
  rw[if_neg OD];exact PJ ⟨σ1,H2,I2,T⟩
end
structure It where
 go:Nat->Hp->Prop
 yld:Nat->Hp->V->Hp->Prop
 stop:Nat->Hp->Prop
def j7(X:Cx)(pins:List (bc×Obj))(H:Hp)(b:bc):Prop:=
 H b=none/\b≠X.env.locals/\b∉X.fs/\(b∈X.ex\/X.s₀.heap.objs.size<=b)/\(∀x c,X.env.cells.lookup x=ar c->c≠b)/\∀p∈X.pn++pins,p.1≠b
theorem Inv.fpOk{X:Cx}{Z:List (bc×Obj)}{S:St}{H W:Hp}{s:b_}{b:bc}(I:Inv X Z S H s)(Y:s.heap.objs.size<=b)(T:W b=none):j7 X Z W b:=by
 refine⟨T,O2 (NC I.lt Y),I.nofs Y,.inr (Nv I.sz Y),λx c e z=>?_,λp U z=>?_⟩
 ·obtain⟨v,q⟩:=I.cell x c e;exact absurd (NC q.lt (by rw[z];exact Y)) (O0 _)
 ·exact absurd (NC (Nu (I.pin p U).1) (by rw[z];exact Y)) (O0 _)
structure Turn(P:eb)(w:eK)(K:c_)(tg:Expr)(J:It)(fp:List bc)(it:bc)(tn:Nat->f'->Prop):Prop where
 mem:it∈fp
 obj:∀i h,tn i h->∀b∈fp,∃o,h.get? b=ar o/\∀v,o.data≠ .cell v
 keep:∀i h h',tn i h->(∀b∈fp,∀o,h.get? b=ar o->h'.get? b=ar o)->tn i h'
 item:∀(X:Cx),X.prog=P->X.w=w->X.K=K->X.calm=cn->∀(i:Nat) (pins:List (bc×Obj)) (s:b_) (σ:St) (H:Hp) (E:aC->b_->Prop),Inv X pins σ H s->(∀b∈fp,j7 X pins H b)->tn i s.heap->J.go i H->
  ed (fb P w) X.A (A' (.ref it)) (λr s1=>∃u,r=ar u/\
   ed (fb P w) X.A (F0 tg (.ref it) u) (λ_ s2=>∃x H',Inv X pins σ H' s2/\RelV x u/\J.yld i H x H'/\tn (i+1) s2.heap/\∀b∈fp,H' b=none) E s1) E s
 done:∀(X:Cx),X.prog=P->X.w=w->X.K=K->X.calm=cn->∀(i:Nat) (pins:List (bc×Obj)) (s:b_) (σ:St) (H:Hp) (E:aC->b_->Prop),Inv X pins σ H s->(∀b∈fp,j7 X pins H b)->tn i s.heap->J.stop i H->
  ed (fb P w) X.A (A' (.ref it)) (λr s1=>r=none/\Inv X pins σ H s1) E s
 self:∀(A:gg) (i:Nat) (s:b_) (Q:aC->b_->Prop) (E:aC->b_->Prop),tn i s.heap->Q (.ref it) s->ed (fb P w) A (RY (.ref it)) Q E s
abbrev TI:=St->Hp->(It->Hp->Prop)->Prop
def MP(X:Cx)(pins:List (bc×Obj))(σ:St)(tg:Expr)(R:It->Hp->Prop)(itv:aC)(s2:b_):Prop:=
 ∃(it:bc) (fp:List bc) (tn:Nat->f'->Prop) (J:It) (H':Hp),itv= .ref it/\Inv X pins σ H' s2/\Turn X.prog X.w X.K tg J fp it tn/\tn 0 s2.heap/\(∀b∈fp,j7 X pins H' b)/\R J H'
def PI(X:Cx)(tg iter:Expr)(wi:TI):Prop:=
 ∀(pins:List (bc×Obj)) (s:b_) (σ:St) (H:Hp) (R:It->Hp->Prop),Inv X pins σ H s->wi σ H R->
  ed (fb X.prog X.w) X.A (hO iter X.env) (λv s1=>ed (fb X.prog X.w) X.A (RY v) (MP X pins σ tg R) X.xe s1) X.xe s
theorem Cr{M:S9}{A:gg}{E:aC->b_->Prop}{s:b_}{Y:Expr}{it:bc}{u:aC}{o:Obj}{n:String}{vs:Array aC}{Q:Unit->b_->Prop}(X:s.heap.get? it=ar o)(W:o.cls= .type n)(U:o.data= .fields vs)
    (T:["enumerate","zip","dict_itemiterator","dict_reverseitemiterator","odict_iterator","itertools.zip_longest","itertools.pairwise"].contains n=dt) (Z:Q () s):ed M A (F0 Y (.ref it) u) Q E s:=by
  unfold F0;cases Y <;>first
    |exact Nr Z
    |(cases u<;>first
        |exact Nr Z
        | (refine Nk (wpAny_load X ?_)
           rw[W,U];show ed M A (if (["enumerate","zip","dict_itemiterator","dict_reverseitemiterator","odict_iterator","itertools.zip_longest","itertools.pairwise"].contains n && vs[0]? ==ar (n0 _))=cn then _ else _) Q E s;rw[if_neg (by intro h;rw[T,OS]at h;cases h)];exact Nr Z))
def J9(K:c_)(a:bc):It:=
 ⟨λi H=>∃xs x,kS K H a xs/\xs[i]? =ar x,λi H x H'=>H'=H/\∀xs,kS K H a xs->xs[i]? =ar x,λi H=>∃xs,kS K H a xs/\xs.length<=i⟩
def Md(K:c_)(a:bc):It:=
 ⟨λi H=>∃xs x,ot K H a xs/\xs[i]? =ar x,λi H x H'=>H'=H/\∀xs,ot K H a xs->xs[i]? =ar x,λi H=>∃xs,ot K H a xs/\xs.length<=i⟩
def Ka(lo:Int)(n:Nat):It:=⟨λi _=>i<n,λi H x H'=>H'=H/\x= .int (lo+i),λi _=>n<=i⟩
theorem AU{P:eb}{w:eK}{K:c_}{C:Expr}(a it:bc):Turn P w K C (J9 K a) [it] it (λi h=>h.IsListIter it a i) where
 mem:=by simp
 obj:=λi h st b Z=>by
  have e:b=it:=by simpa using Z
  subst e;obtain⟨o,e,c,d⟩:=st;exact⟨o,e,λv z=>by rw[d]at z;cases z⟩
 keep:=λi h h' st k=>st.at λo e=>k it (by simp) o e
 item:=by intro X R hw Q J i pins s σ H E I hf st O;subst R hw Q;obtain⟨xs,x,U,L⟩:=O;obtain⟨its,S,p,B⟩:=I.list U;obtain⟨u,t,G⟩:=S.get L;obtain⟨f0,f1,f2,N,f4,T⟩:=hf it (by simp);refine wpAny_pyNext_list_item st p.isList (x:=u) (by simpa using t) λh' Y A=>?_;have F:Inv X pins σ H {s with heap:=h'}:=I.turned (t':=s.toks) (λb o Z e=>(A.2 b Z).trans e) f0 f1 N f4 T;obtain⟨o,e,c,d⟩:=id Y;exact⟨u,rfl,Cr (s:={s with heap:=h'}) e c d (by decide) ⟨x,H,F,G,⟨rfl,λys r=>by rw[I.list_inj r U];exact L⟩,Y,λb Z=>(hf b Z).1⟩⟩
 done:=by intro X R hw Q J i pins s σ H E I hf st O;subst R hw Q;obtain⟨xs,U,L⟩:=O;obtain⟨its,S,p,B⟩:=I.list U;obtain⟨f0,f1,f2,N,f4,T⟩:=hf it (by simp);have q:=S.length;exact wpAny_pyNext_list_end (I.ok.hd J) st p.isList (by simp;omega) λh' y=>⟨rfl,I.turned (t':=s.toks) (λb o Z e=>y b o Z e) f0 f1 N f4 T⟩
 self:=λ_ _ _ _ _ st h=>wpAny_pyIter_listiter st h
theorem xU{P:eb}{w:eK}{K:c_}{C:Expr}(a it:bc):Turn P w K C (Md K a) [it] it (λi h=>h.IsTupleIter it a i) where
 mem:=by simp
 obj:=λi h st b Z=>by
  have e:b=it:=by simpa using Z
  subst e;obtain⟨o,e,c,d⟩:=st;exact⟨o,e,λv z=>by rw[d]at z;cases z⟩
 keep:=λi h h' st k=>st.at λo e=>k it (by simp) o e
 item:=by intro X R hw Q J i pins s σ H E I hf st O;subst R hw Q;obtain⟨xs,x,U,L⟩:=O;obtain⟨its,S,p,B⟩:=I.tuple U;obtain⟨u,t,G⟩:=S.get L;obtain⟨f0,f1,f2,N,f4,T⟩:=hf it (by simp);refine wpAny_pyNext_tuple_item st (show s.heap.IsTuple a its.toArray from p) (x:=u) (by simpa using t) λh' Y A=>?_;have F:Inv X pins σ H {s with heap:=h'}:=I.turned (t':=s.toks) (λb o Z e=>(A.2 b Z).trans e) f0 f1 N f4 T;obtain⟨o,e,c,d⟩:=id Y;exact⟨u,rfl,Cr (s:={s with heap:=h'}) e c d (by decide) ⟨x,H,F,G,⟨rfl,λys r=>by rw[I.tuple_inj r U];exact L⟩,Y,λb Z=>(hf b Z).1⟩⟩
 done:=by intro X R hw Q J i pins s σ H E I hf st O;subst R hw Q;obtain⟨xs,U,L⟩:=O;obtain⟨its,S,p,B⟩:=I.tuple U;obtain⟨f0,f1,f2,N,f4,T⟩:=hf it (by simp);have q:=S.length;exact wpAny_pyNext_tuple_end (I.ok.hd J) st (show s.heap.IsTuple a its.toArray from p) (by simp;omega) λh' y=>⟨rfl,I.turned (t':=s.toks) (λb o Z e=>y b o Z e) f0 f1 N f4 T⟩
 self:=λ_ _ _ _ _ st h=>wpAny_pyIter_tupleiter st h
theorem xV{P:eb}{w:eK}{K:c_}{J:Expr}(it:bc)(U:Int)(n:Nat):Turn P w K J (Ka U n) [it] it (λi h=>IsRangeIter h it (U+(i:Nat)*1) ((n:Int) - (i:Nat)) 1) where
 mem:=by simp
 obj:=λi h st b Z=>by
  have e:b=it:=by simpa using Z
  subst e;exact⟨_,st,λv z=>by have B:Data.fields _=Data.cell v:=z;cases B⟩
 keep:=λi h h' st k=>k it (by simp) _ st
 item:=by intro X R hw Q S i pins s σ H E I hf st O;subst R hw Q;obtain⟨f0,f1,f2,N,f4,T⟩:=hf it (by simp);have W:=Walks.range (prog:=X.prog) (w:=X.w) (I.ok.hd S) it U 1 n;refine W.item i s _ _ O st λv h' L F Y A=>?_;obtain⟨t,rfl⟩:=F;have G:Inv X pins σ H {s with heap:=h',toks:=L}:=I.turned (λb o Z e=>A b o (by simpa using Z) e) f0 f1 N f4 T;refine⟨_,rfl,Cr (s:={s with heap:=h',toks:=L}) (n:="range_iterator") Y rfl rfl (by decide) ⟨.int (U+i),H,G,⟨t,?_⟩,⟨rfl,rfl⟩,Y,λb Z=>(hf b Z).1⟩⟩;rw[Int.mul_one]
 done:=by intro X R hw Q S i pins s σ H E I hf st O;subst R hw Q;obtain⟨f0,f1,f2,N,f4,T⟩:=hf it (by simp);exact wpAny_pyNext_range_end (I.ok.hd S) st (by have:n<=i:=O;omega) λh' C=>⟨rfl,I.turned (t':=s.toks) (λb o Z e=>C b o Z e) f0 f1 N f4 T⟩
 self:=λ_ _ _ _ _ st h=>wpAny_pyIter_rangeiter st h
section
variable {X:Cx}{tg:Expr}
def Kb(K:c_)(tl:TE):TI:=λσ H R=>tl σ H λx H1=>∃a,x= .ref a/\(∃xs,kS K H1 a xs)/\R (J9 K a) H1
def Me(K:c_)(tl:TE):TI:=λσ H R=>tl σ H λx H1=>∃a,x= .ref a/\(∃xs,ot K H1 a xs)/\R (Md K a) H1
theorem lK{l:Expr}{Z:TE}(U:PE X l Z):PI X tg l (Kb X.K Z):=by
 intro pins s σ H R I h;refine dJ (U pins s σ H _ I h) λv s1 ⟨x,H1,I1,r1,q1⟩=>?_;obtain⟨a,e,⟨xs,W⟩,q⟩:=q1;subst e;cases r1;obtain⟨its,T,p,S⟩:=I1.list W;refine Qp p.isList ?_;refine⟨s1.heap.objs.size,[s1.heap.objs.size],_,_,H1,rfl,I1.kept (t':=s1.toks) λb o e=>Nm _ e,AU a _,⟨_,Nw _ rfl,rfl,rfl⟩,λb Y=>?_,q⟩;have e:b=s1.heap.objs.size:=by simpa using Y
 subst e;exact I1.fpOk (Nq _) (I1.hok.fresh (Nq _))
theorem HA{l:Expr}{Z:TE}(U:PE X l Z):PI X tg l (Me X.K Z):=by
 intro pins s σ H R I h;refine dJ (U pins s σ H _ I h) λv s1 ⟨x,H1,I1,r1,q1⟩=>?_;obtain⟨a,e,⟨xs,W⟩,q⟩:=q1;subst e;cases r1;obtain⟨its,T,p,S⟩:=I1.tuple W;refine OW (show s1.heap.IsTuple a its.toArray from p) ?_;refine⟨s1.heap.objs.size,[s1.heap.objs.size],_,_,H1,rfl,I1.kept (t':=s1.toks) λb o e=>Nm _ e,xU a _,⟨_,Nw _ rfl,rfl,rfl⟩,λb Y=>?_,q⟩;have e:b=s1.heap.objs.size:=by simpa using Y
 subst e;exact I1.fpOk (Nq _) (I1.hok.fresh (Nq _))
theorem vV{W:List (bc×Obj)}{T:St}{H:Hp}{s:b_}{R:It->Hp->Prop}{E:aC->b_->Prop}{Z Y:Int}{t u v:Tok}{S:Nat}(I:Inv X W T H s)(O: -(2 ^ 62)<=Z)(N:Z<2 ^ 62)(P: -(2 ^ 62)<=Y)(L:Y<2 ^ 62)
  (q:R (Ka Z (Y - Z).toNat) H):ed (fb X.prog X.w) X.A (RY (.ref s.heap.objs.size)) (MP X W T tg R) E {s with heap:=s.heap.push {cls:=.type "range",data:=.fields #[.int Z t,.int Y u,.int 1 v]},toks:=S}:=by
 refine wpAny_pyIter_range (IsRange.new ..) (small_one O N P L) ?_;have U:Inv X W T H {s with heap:=s.heap.push {cls:=.type "range",data:=.fields #[.int Z t,.int Y u,.int 1 v]},toks:=S}:=I.kept λb o e=>Nm _ e;refine⟨(s.heap.push {cls:=.type "range",data:=.fields #[.int Z t,.int Y u,.int 1 v]}).objs.size,[(s.heap.push {cls:=.type "range",data:=.fields #[.int Z t,.int Y u,.int 1 v]}).objs.size],_,_,H,rfl,
  U.kept (t':=S) λb o e=>Nm _ e,xV _ Z (Y - Z).toNat,?_,λb Q=>?_,q⟩
 ·have e1:Z+((0:Nat):Int)*1=Z:=by simp
  have e2:(((Y - Z).toNat:Nat):Int) - ((0:Nat):Int)=Builtin.Range.rangeSize Z Y 1:=by rw[rangeSize_one];split<;>omega
  show IsRangeIter _ _ (Z+((0:Nat):Int)*1) ((((Y - Z).toNat:Nat):Int) - ((0:Nat):Int)) 1;rw[e1,e2];exact Nw _ rfl
 ·have e:b=(s.heap.push {cls:=.type "range",data:=.fields #[.int Z t,.int Y u,.int 1 v]}).objs.size:=by simpa using Q
  subst e;exact U.fpOk (Nq _) (U.hok.fresh (Nq _))
def Kc(ta:TA):TI:=λσ H R=>ta σ H λvs H1=>∃j:Int,vs=[.int j]/\ -(2 ^ 62)<=j/\j<2 ^ 62/\R (Ka 0 j.toNat) H1
def Kd(ta:TA):TI:=λσ H R=>ta σ H λvs H1=>∃i j:Int,vs=[.int i,.int j]/\(-(2 ^ 62)<=i/\i<2 ^ 62/\ -(2 ^ 62)<=j/\j<2 ^ 62)/\R (Ka i (j - i).toNat) H1
theorem AV{a:Expr}{Y:TA}{p pos:Pos}(U:Gl X "range")(T:X.mg "range"=none)(W:PA X [a] Y)(hs:dV [a] X.env=[(dt,hO a X.env)]:=by rfl):PI X tg (.Call (.Name "range" p) [a] [] pos) (Kc Y):=by
 intro pins s σ H R I h;refine Uj (mO I U T boot_range (OH (dJ (W pos pins s σ H _ I h) λus s1 ⟨vs,H1,I1,r1,Z⟩=>?_) hs rfl));obtain⟨j,e,Z,S,q⟩:=Z;subst e;cases r1 with
 |cons r rr=>
  cases rr;obtain⟨t,rfl⟩:=r;exact call_range_1 (vV I1 (by omega) (by omega) Z S (by simpa using q))
theorem AW{a b:Expr}{W:TA}{p pos:Pos}(Q:Gl X "range")(P:X.mg "range"=none)(S:PA X [a,b] W)(hs:dV [a,b] X.env=[(dt,hO a X.env),(dt,hO b X.env)]:=by rfl)(Z:dV [b] X.env=[(dt,hO b X.env)]:=by rfl):
  PI X tg (.Call (.Name "range" p) [a,b] [] pos) (Kd W):=by
 intro pins s σ H R I h;refine Uj (mO I Q P boot_range (OH (dJ (S pos pins s σ H _ I h) λus s1 ⟨vs,H1,I1,r1,Y⟩=>?_) (by rw[hs,Z]) (by rw[Z];rfl)));obtain⟨i,j,e,⟨Y,O,T,U⟩,q⟩:=Y;subst e;cases r1 with
 | cons r rr=>
  cases rr with
  |cons r' rr=>
   cases rr;obtain⟨t,rfl⟩:=r;obtain⟨t',rfl⟩:=r';exact call_range_2 (vV I1 Y O T U q)
def Mf(wi:TI)(g:TG)(tb:TS):TS:=λD σ H=>wi σ H λJ H1=>∃W:Nat->Nat->St->Hp->Prop,(∃m,W 0 m σ H1)/\∀i m σ H,W i m σ H->
 (J.stop i H/\D.nx σ H)\/(J.go i H/\∃N:St->Hp->Prop,(∀ σ' H',N σ' H'->∃m',m'<m/\W (i+1) m' σ' H')/\∀x H',J.yld i H x H'->g x σ H' λσ2 H2=>tb {D with nx:=N,ct:=N,bk:=D.nx} σ2 H2)
def ou(fp:List bc)(h:f'):List (bc×Obj):=fp.filterMap λb=>(h.get? b).map λo=>(b,o)
theorem gq{Z:List bc}{h:f'}{b:bc}{o:Obj}(Y:b∈Z)(e:h.get? b=ar o):(b,o)∈ou Z h:=OV.mpr ⟨b,Y,by rw[e];rfl⟩
theorem AX{Z:List bc}{h:f'}{p:bc×Obj}(W:p∈ou Z h):p.1∈Z/\h.get? p.1=ar p.2:=by
 obtain⟨b,Y,e⟩:=OV.mp W;cases q:h.get? b with
 |none=>rw[q]at e;cases e
 |some o=>
  rw[q]at e;have U:(b,o)=p:=NP e;subst U;exact⟨Y,q⟩
theorem Inv.pinned{Z:List (bc×Obj)}{U:St}{H:Hp}{s:b_}{Y:List bc}(I:Inv X Z U H s)(S:∀b∈Y,j7 X Z H b)(R:∀b∈Y,∃o,s.heap.get? b=ar o/\∀v,o.data≠ .cell v):Inv X (Z++ou Y s.heap) U H s:=
 I.pins_of λp Q=>(Oj.mp Q).elim (λz=>I.pin p (NG _ z)) λz=>by obtain⟨W,e⟩:=AX z;obtain⟨f0,f1,f2,_⟩:=S p.1 W;obtain⟨o,T,d⟩:=R p.1 W;rw[e]at T;cases T;exact⟨e,f0,f1,f2,d⟩
theorem Inv.unpinned{Z U:List (bc×Obj)}{Y:St}{H:Hp}{s:b_}(I:Inv X (Z++U) Y H s):Inv X Z Y H s:=I.pins_of λp W=>I.pin p (NG _ (OL _ W))
theorem HB{U:Expr}{body:List p_}{B:TI}{g:TG}{tb:TS}{pos:Pos}(L:R9 (fb X.prog X.w) X.A X.env X.xe)(C:X.calm=cn)(j:PI X tg U B)(c:PG X tg g)(S:qH X body tb)
  (hs:∀x,g_ U X.env x=a_ x:=by intro _;rfl):PS X (.For tg U body [] pos) (Mf B g tb):=by
 intro pins s σ H D I h;refine wpAny_For (dJ (j pins s σ H _ I h) λv s1 p=>dJ p λy s2 a=>?_) hs;obtain⟨it,O,z,J,q,e,k,T,E,f2,W,⟨m0,w0⟩,turn⟩:=a;subst e;have Q:∀{H':Hp},(∀b∈O,H' b=none)->∀b∈O,j7 X pins H' b:=λhn b S=>⟨hn b S,(f2 b S).2⟩;refine codeAny_forLoop_any (λn s'=>∃i σ' H',Inv X pins σ' H' s'/\z i s'.heap/\(∀b∈O,H' b=none)/\W i n σ' H') ?_ m0 ⟨0,σ,q,k,E,λb S=>(f2 b S).1,w0⟩;rintro n s3 ⟨i,σ3,H3,I3,st3,fr3,w3⟩;rcases turn i n σ3 H3 w3 with⟨stop,qn⟩|⟨go,N,hN,step⟩
 ·refine Pg L (dJ (T.done X rfl rfl rfl C i pins s3 σ3 H3 X.xe I3 (Q fr3) st3 stop) λr s4 ⟨hr,I4⟩=>?_);subst hr;exact PJ ⟨σ3,H3,I4,qn⟩
 ·refine Pg L (dJ (T.item X rfl rfl rfl C i pins s3 σ3 H3 X.xe I3 (Q fr3) st3 go) λr s4 ⟨u,hr,h4⟩=>?_);subst hr;refine Pg L (dJ h4 λ_ s5 ⟨x,H5,I5,r5,y5,st5,fr5⟩=>?_);have G:=I5.pinned (Q fr5) (T.obj _ _ st5);refine Pg L (dJ (c _ s5 σ3 H5 x u _ G r5 (step x H5 y5)) λ_ s6 ⟨σ6,H6,I6,q6⟩=>?_);refine Pg L (dJ (S _ s6 σ6 H6 _ I6 q6) λf F P=>?_);have RZ:∀{Z:St} {R:Hp},Inv X (pins++ou O s5.heap) Z R F->N Z R->∃m,m<n/\∃i σ' H',Inv X pins σ' H' F/\z i F.heap/\(∀b∈O,H' b=none)/\W i m σ' H':=λ{Z R} Y K=>by
   obtain⟨t,hm,w7⟩:=hN Z R K;refine⟨t,hm,i+1,Z,R,Y.unpinned,T.keep _ _ _ st5 λb S o e=>(Y.pin (b,o) (NG _ (NG _ (gq S e)))).1,λb S=>?_,w7⟩;obtain⟨o,e,d⟩:=T.obj _ _ st5 b S;exact(Y.pin (b,o) (NG _ (NG _ (gq S e)))).2.1
  cases f with
  |next=>obtain⟨Z,R,Y,K⟩:=P;exact RZ Y K
  |cont=>obtain⟨Z,R,Y,K⟩:=P;exact RZ Y K
  |brk=>obtain⟨Z,R,Y,P⟩:=P;exact⟨Z,R,Y.unpinned,P⟩
  |ret v=>obtain⟨x7,Z,R,Y,l,P⟩:=P;exact⟨x7,Z,R,Y.unpinned,l,P⟩
end
abbrev R2:=V->V->Hp->VK->Prop
def jS(X:Cx)(f:aC->aC->Sem aC)(r:R2):Prop:=
 ∀(pins:List (bc×Obj)) (s:b_) (σ:St) (H:Hp) (x y:V) (v u:aC) (Q:VK),Inv X pins σ H s->RelV x v->RelV y u->r x y H Q->
  ed (fb X.prog X.w) X.A (f v u) (EP X pins σ Q) X.xe s
def Mg(X:Cx)(f:aC->Sem aC)(r:V->Hp->VK->Prop):Prop:=
 ∀(pins:List (bc×Obj)) (s:b_) (σ:St) (H:Hp) (x:V) (v:aC) (Q:VK),Inv X pins σ H s->RelV x v->r x H Q->
  ed (fb X.prog X.w) X.A (f v) (EP X pins σ Q) X.xe s
def d7(X:Cx)(f:aC)(r:List V->Hp->VK->Prop):Prop:=
 ∀(pins:List (bc×Obj)) (s:b_) (σ:St) (H:Hp) (xs:List V) (us:List aC) (Q:VK),Inv X pins σ H s->bg xs us->r xs H Q->
  ed (fb X.prog X.w) X.A (call f us) (EP X pins σ Q) X.xe s
def JN(r:R2)(ta tb:TE):TE:=λσ H Q=>ta σ H λx H1=>tb σ H1 λy H2=>r x y H2 Q
def M0(r:V->Hp->VK->Prop)(ta:TE):TE:=λσ H Q=>ta σ H λx H1=>r x H1 Q
def rI(C:Int->Int->Prop)(g:Int->Int->V):R2:=λx y H Q=>∃i j,x= .int i/\y= .int j/\C i j/\Q (g i j) H
def EZ(g:Int->Int->V):R2:=λx y H Q=>∃i j,x= .int i/\y= .int j/\Q (g i j) H
def rU(g:Int->V):V->Hp->VK->Prop:=λx H Q=>∃i,x= .int i/\Q (g i) H
section
variable {X:Cx}{a b c:Expr}{ta tb tc:TE}{pos:Pos}
theorem HC(N:PE X a ta)(O:PE X b tb){Z:List (bc×Obj)}{s:b_}{Y:St}{H:Hp}{R:V->V->Hp->Prop}(I:Inv X Z Y H s)
  (h:ta Y H λx S=>tb Y S λy W=>R x y W) {Q:aC->b_->Prop} {f:aC->aC->Sem aC}
  (P:∀v u s2 x y W,Inv X Z Y W s2->RelV x v->RelV y u->R x y W->ed (fb X.prog X.w) X.A (f v u) Q X.xe s2):
  ed (fb X.prog X.w) X.A (hO a X.env) (λv U=>ed (fb X.prog X.w) X.A (hO b X.env) (λu T=>ed (fb X.prog X.w) X.A (f v u) Q X.xe T) X.xe U) X.xe s:=by
 refine dJ (N Z s Y H _ I h) λv s1 ⟨x,S,I1,r1,q1⟩=>?_;refine dJ (O Z s1 Y S _ I1 q1) λu s2 ⟨y,W,I2,r2,q2⟩=>?_;exact P v u s2 x y W I2 r1 r2 q2
theorem Ke{op:Operator}{r:R2}(Z:jS X (u0 op) r)(S:PE X a ta)(U:PE X b tb):PE X (.BinOp a op b pos) (JN r ta tb):=by intro pins s σ H Q I h;exact wpAny_BinOp (HC S U I h λv u s2 x y T R Y W q=>Z pins s2 σ T x y v u Q R Y W q)
theorem Kf{op:UnaryOp}{r:V->Hp->VK->Prop}(Z:Mg X (unaryOp op) r)(Y:PE X a ta):PE X (.UnaryOp op a pos) (M0 r ta):=by intro pins s σ H Q I h;exact UnaryOp_ (dJ (Y pins s σ H _ I h) λv s1 ⟨x,H1,I1,r1,q1⟩=>Z pins s1 σ H1 x v Q I1 r1 q1)
theorem LA{f:aC->aC->Sem aC}{C:Int->Int->Prop}{g:Int->Int->Int}
  (Z:∀(i j:Int) (t u:Tok) (s:b_) (Q:aC->b_->Prop) (E:aC->b_->Prop),C i j->Q (.int (g i j) s.toks) {s with toks:=s.toks+1}->ed (fb X.prog X.w) X.A (f (.int i t) (.int j u)) Q E s):
  jS X f (rI C λi j=>.int (g i j)):=by
 intro pins s σ H x y v u Q I Y W h;obtain⟨i,j,rfl,rfl,U,q⟩:=h;obtain⟨t,rfl⟩:=Y;obtain⟨t',rfl⟩:=W;exact Z i j t t' s _ _ U ⟨.int (g i j),H,I.tok _,⟨_,rfl⟩,q⟩
theorem Kg{f:aC->aC->Sem aC}{g:Int->Int->Int}
  (Z:∀(i j:Int) (t u:Tok) (s:b_) (Q:aC->b_->Prop) (E:aC->b_->Prop),Q (.int (g i j) s.toks) {s with toks:=s.toks+1}->ed (fb X.prog X.w) X.A (f (.int i t) (.int j u)) Q E s):
  jS X f (EZ λi j=>.int (g i j)):=by
 intro pins s σ H x y v u Q I Y W h;obtain⟨i,j,rfl,rfl,q⟩:=h;obtain⟨t,rfl⟩:=Y;obtain⟨t',rfl⟩:=W;exact Z i j t t' s _ _ ⟨.int (g i j),H,I.tok _,⟨_,rfl⟩,q⟩
theorem Fg{f:aC->aC->Sem aC}{g:Int->Int->Bool}
  (Z:∀(i j:Int) (t u:Tok) (s:b_) (Q:aC->b_->Prop) (E:aC->b_->Prop),Q (.bool (g i j)) s->ed (fb X.prog X.w) X.A (f (.int i t) (.int j u)) Q E s):
  jS X f (EZ λi j=>.bl (g i j)):=by
 intro pins s σ H x y v u Q I Y W h;obtain⟨i,j,rfl,rfl,q⟩:=h;obtain⟨t,rfl⟩:=Y;obtain⟨t',rfl⟩:=W;exact Z i j t t' s _ _ ⟨.bl (g i j),H,I,rfl,q⟩
def Cs(i j:Int):Prop:=0<j/\j<1073741824
def Fh(i j:Int):Prop:=0<=j/\j<=1000000/\i.natAbs<2 ^ 64
def xW(i j:Int):Prop:=(-(2 ^ 64)<i/\i<2 ^ 64)\/(-(2 ^ 64)<j/\j<2 ^ 64)
theorem xW.ok{i j:Int}(h:xW i j):IntMulOk i j:=by
 rcases h with⟨h1,h2⟩|⟨h1,h2⟩
 ·exact .of_left (intBits_le_64 h1 h2)
 ·exact .of_right (intBits_le_64 h1 h2)
theorem HD:jS X (u0 .Add) (EZ λi j=>.int (i+j)):=Kg λ_ _ _ _ _ _ _ q=>add_int q
theorem HE:jS X (u0 .Sub) (EZ λi j=>.int (i - j)):=Kg λ_ _ _ _ _ _ _ q=>sub_int q
theorem HF:jS X (u0 .Mult) (rI xW λi j=>.int (i*j)):=LA λ_ _ _ _ _ _ _ Z q=>mul_int q Z.ok
theorem Fi:jS X (u0 .FloorDiv) (rI Cs λi j=>.int (i / j)):=LA λi j _ _ _ _ _ Z q=>by have W:(0:Int)<j:=Z.1;have Y:j<1073741824:=Z.2;exact floordiv_int (by omega) (by rw[Int.fdiv_eq_ediv_of_nonneg i (by omega)];exact q) (.inl (PyProof.noPylong_small (by omega)))
theorem HG:jS X (u0 .Mod) (rI (λ_ j=>0<j) λi j=>.int (i % j)):=LA λi j _ _ _ _ _ Z q=>by have Y:(0:Int)<j:=Z;exact mod_int' (by omega) (by rw[Int.fmod_eq_emod_of_nonneg i (by omega)];exact q)
theorem HH:jS X (u0 .Pow) (rI Fh λi j=>.int (i ^ j.toNat)):=LA λ_ _ _ _ _ _ _ Z q=>pow_int_small Z.1 Z.2.1 Z.2.2 q
theorem M1{f:aC->Sem aC}{g:Int->Int}
  (Z:∀(i:Int) (t:Tok) (s:b_) (Q:aC->b_->Prop) (E:aC->b_->Prop),Q (.int (g i) s.toks) {s with toks:=s.toks+1}->ed (fb X.prog X.w) X.A (f (.int i t)) Q E s):
  Mg X f (rU λi=>.int (g i)):=by
 intro pins s σ H x v Q I Y h;obtain⟨i,rfl,q⟩:=h;obtain⟨t,rfl⟩:=Y;exact Z i t s _ _ ⟨.int (g i),H,I.tok _,⟨_,rfl⟩,q⟩
theorem HI:Mg X (unaryOp .USub) (rU λi=>.int (-i)):=M1 λ_ _ _ _ _ q=>neg_int q
theorem Ct:jS X (kr .Lt) (EZ λi j=>.bl (decide (i<j))):=Fg λ_ _ _ _ _ _ _ q=>lt_int q
theorem Cu:jS X (kr .LtE) (EZ λi j=>.bl (decide (i<=j))):=Fg λ_ _ _ _ _ _ _ q=>le_int q
theorem Kh:jS X (kr .Gt) (EZ λi j=>.bl (decide (j<i))):=Fg λ_ _ _ _ _ _ _ q=>gt_int q
theorem Ki:jS X (kr .GtE) (EZ λi j=>.bl (decide (j<=i))):=Fg λ_ _ _ _ _ _ _ q=>ge_int q
theorem jS.or{f:aC->aC->Sem aC}{r W:R2}(h:jS X f r)(h':jS X f W):jS X f (λx y H Q=>r x y H Q\/W x y H Q):=by
 intro pins s σ H x y v u Q I Z Y q;rcases q with q|q
 ·exact h pins s σ H x y v u Q I Z Y q
 ·exact h' pins s σ H x y v u Q I Z Y q
theorem Mh(b:Expr){op:Tt}(h:op≠ .In:=by decide)(Z:op≠ .NotIn:=by decide):mh op b=false:=by
 have e1:(op==CmpOp.In)=false:=by cases op<;>first|rfl|exact absurd rfl h
 have e2:(op==CmpOp.NotIn)=false:=by cases op<;>first|rfl|exact absurd rfl Z
 cases b<;>simp[mh,e1,e2]
theorem Fj{op:Tt}{r:R2}(Z:jS X (kr op) r)(S:PE X a ta)(U:PE X b tb)(P:mh op b=dt):PE X (.Compare a [op] [b] pos) (JN r ta tb):=by intro pins s σ H Q I h;exact wpAny_Compare1 (HC S U I h λv u s2 x y T R Y W q=>Z pins s2 σ T x y v u Q R Y W q) P
def GV(t:TE):TT:=λσ H Q=>t σ H λx H'=>∃k,x= .bl k/\Q k H'
theorem zz{op:Tt}{r:R2}(Z:jS X (kr op) r)(U:PE X a ta)(W:PE X b tb)(Y:mh op b=dt):PT X (.Compare a [op] [b] pos) (GV (JN r ta tb)):=by
 intro pins s σ H Q I h;refine wpAny_isTrue_Compare1 (dJ (U pins s σ H _ I h) λv s1 ⟨x,H1,I1,r1,q1⟩=>dJ (W pins s1 σ H1 _ I1 q1) λu s2 ⟨y,H2,I2,r2,q2⟩=>
  dJ (Z pins s2 σ H2 x y v u _ I2 r1 r2 q2) λc s3 ⟨z,H3,I3,r3,k,e,q3⟩=>?_) Y
 subst e;cases r3;exact OG ⟨H3,I3,q3⟩
def xX(r r':R2)(ta tb tc:TE):TE:=λσ H Q=>ta σ H λx H1=>tb σ H1 λy H2=>r x y H2 λz H3=>∃k,z= .bl k/\
 (if k=cn then tc σ H3 λw' H4=>r' y w' H4 Q else Q (.bl dt) H3)
theorem Cv{op Z:Tt}{r W:R2}(U:jS X (kr op) r)(Y:jS X (kr Z) W)(P:PE X a ta)(T:PE X b tb)(R:PE X c tc)
  (S:SC [op,Z] [b,c]=false:=by with_unfolding_all rfl):PE X (.Compare a [op,Z] [b,c] pos) (xX r W ta tb tc):=by
 intro pins s σ H Q I h;refine Compare_chain (dJ (P pins s σ H _ I h) λv s1 ⟨x,H1,I1,r1,q1⟩=>chain_link (dJ (T pins s1 σ H1 _ I1 q1) λu s2 ⟨y,H2,I2,r2,q2⟩=>
  dJ (U pins s2 σ H2 x y v u _ I2 r1 r2 q2) λd s3 ⟨z,H3,I3,r3,k,e,q3⟩=>?_)) S
 subst e;cases r3;refine OG ?_;cases k with
 |false=>exact ite_ff ⟨.bl dt,H3,I3,rfl,q3⟩
 |true=>exact ite_tt (chain_last (dJ (R pins s3 σ H3 _ I3 q3) λw' s4 ⟨z',H4,I4,r4,q4⟩=>Y pins s4 σ H4 y z' u w' Q I4 r2 r4 q4))
theorem Cw{op Z:Tt}{r W:R2}(U:jS X (kr op) r)(Y:jS X (kr Z) W)(P:PE X a ta)(T:PE X b tb)(S:PE X c tc)
  (O:SC [op,Z] [b,c]=false:=by with_unfolding_all rfl):PT X (.Compare a [op,Z] [b,c] pos) (GV (xX r W ta tb tc)):=by
 intro pins s σ H Q I h;refine isTrue_chain (dJ (P pins s σ H _ I h) λv s1 ⟨x,H1,I1,r1,q1⟩=>test_link (dJ (T pins s1 σ H1 _ I1 q1) λu s2 ⟨y,H2,I2,r2,q2⟩=>
  dJ (U pins s2 σ H2 x y v u _ I2 r1 r2 q2) λd s3 ⟨z,H3,I3,r3,k,e,q3⟩=>?_)) O
 subst e;cases r3;refine OG ?_;cases k with
 |false=>
  obtain⟨L,R,N⟩:=q3;cases R;exact ite_ff ⟨H3,I3,N⟩
 |true=>
  refine ite_tt (test_last (dJ (S pins s3 σ H3 _ I3 q3) λw' s4 ⟨z',H4,I4,r4,q4⟩=>dJ (Y pins s4 σ H4 y z' u w' _ I4 r2 r4 q4) λd' s5 ⟨z2,H5,I5,r5,k2,e2,q5⟩=>?_));subst e2;cases r5;exact OG ⟨H5,I5,q5⟩
theorem qJ:(sizeLine:Nat)<2 ^ 63:=by rw[OI];decide
theorem vals1{x:V}{us:List aC}(r:bg [x] us):∃u,us=[u]/\RelV x u:=by
 cases r with
 |cons r1 r2=>cases r2;exact⟨_,rfl,r1⟩
theorem vals2{x y:V}{us:List aC}(r:bg [x,y] us):∃u w',us=[u,w']/\RelV x u/\RelV y w':=by
 cases r with
 |cons r1 r2=>
  cases r2 with
  |cons r3 r4=>cases r4;exact⟨_,_,rfl,r1,r3⟩
theorem AY(Z:X.calm=cn):d7 X (.builtin "max") (λxs H Q=>∃i j,xs=[.int i,.int j]/\Q (.int (if j>i then j else i)) H):=by
 intro pins s σ H xs us Q I r h;obtain⟨i,j,rfl,q⟩:=h;obtain⟨u,Y,rfl,⟨t,rfl⟩,⟨t',rfl⟩⟩:=vals2 r;refine max_two_ints (I.ok.hd Z) λh' W k=>⟨_,H,I.kept k,?_,q⟩;by_cases hj:j>i
 ·rw[if_pos hj,if_pos hj];exact⟨_,rfl⟩
 ·rw[if_neg hj,if_neg hj];exact⟨_,rfl⟩
theorem AZ(Z:X.calm=cn):d7 X (.builtin "min") (λxs H Q=>∃i j,xs=[.int i,.int j]/\Q (.int (if j<i then j else i)) H):=by
 intro pins s σ H xs us Q I r h;obtain⟨i,j,rfl,q⟩:=h;obtain⟨u,Y,rfl,⟨t,rfl⟩,⟨t',rfl⟩⟩:=vals2 r;refine min_two_ints (I.ok.hd Z) λh' W k=>⟨_,H,I.kept k,?_,q⟩;by_cases hj:j<i
 ·rw[if_pos hj,if_pos hj];exact⟨_,rfl⟩
 ·rw[if_neg hj,if_neg hj];exact⟨_,rfl⟩
end
structure ObjM(h:f')(x dx C:bc)(mA:Str->Option aC):Prop where
 obj:h.get? x=ar (Tr C dx)
 ns:h.Ns1 dx mA
 ne:dx≠x
theorem A0{h:f'}{Y:bc}{X:Str->Option aC}(n:h.Ns1 Y X):∃od,h.get? Y=ar od/\∀name,TQ name od=ar (X name):=by
 obtain⟨o,es,ep,U,hd,R,_,hm⟩:=n;refine⟨o,U,λname=>?_⟩;have e:=hm name;unfold nsFind findBy at e;rw[<-Array.find?_toList]at e;unfold TQ;rw[hd];dsimp only;split
 ·rename_i y q
  rw[q]at e;exact QL ar e
 ·rename_i q
  rw[q]at e;have a:es.toList.any (·.refKey)=false:=by rw[List.any_eq_false];intro y S;obtain⟨z,t,Z⟩:=R y (QG.mp S);simp[DictEntry.refKey,Z]
  have T:¬ es.toList.any (·.refKey)=true:=by rw[a];exact OD
  rw[if_neg T];exact QL ar e
theorem ObjM.look{h:f'}{x Y C:bc}{Z:Str->Option aC}(I:ObjM h x Y C Z):∃od,Rn h x (Tr C Y) C (ar od)/\∀name,TQ name od=ar (Z name):=
 let ⟨od,ho,hl⟩:=A0 I.ns
 ⟨od,⟨I.obj,rfl,rfl,ho⟩,hl⟩
section
variable {prog:eb}{w:eK}{A:gg}{E:aC->b_->Prop}{s:b_}{K:c_}{x dx C f:bc}{mA:Str->Option aC}{name:Str}{v:aC}
end
section
variable {P:eb}{w:eK}{H H':Hp}{h h':f'}{a C dx:bc}{fs fs':List (Str×V)}
theorem fB(Y:iG P w H h)(e:H a=ar (.ins C dx fs)):∃Z,ObjM h a dx C Z/\(∀f,E8 (fs.lookup f) (Z f))/\PySem.Within Z (fs.map (·.1))/\fs.length<=1000/\H dx=ar (.own a):=by obtain⟨d,z,ne,X,Z,n,r,q⟩:=(show bB P w H h a (.ins C dx fs)from Y a _ e);exact⟨Z,⟨X,n,ne⟩,r,q,z,d⟩
end
structure Cls(K:c_)(C:bc):Prop where
 pg:W.plainGet K C Str.empty=cn
 hd:W.hasDictIn K C=cn
 po:W.plainOver K C=cn
 sa:R0 K (.ref C) "__setattr__"=ar (ar (.builtin "object.__setattr__"))
theorem Cls.get{K:c_}{C:bc}(c:Cls K C)(f:Str):W.plainGet K C f=true:=c.pg
structure Con(K:c_)(C:bc)(f:Str)(v:V)(u:aC):Prop where
 at_:R0 K (.ref C) f=ar (ar u)
 rel:RelV v u
 get:W.specialIn K u "__get__"=ar none
 cp:W.copiedNames.contains f=dt
structure Meth(K:c_)(C:bc)(m:Str)(f:bc):Prop where
 at_:R0 K (.ref C) m=ar (ar (.ref f))
 fn:W.isFn K (.ref f)=cn
 kp:z3 K (.ref f)=cn
section
variable {X:Cx}{pins:List (bc×Obj)}{σ:St}{H:Hp}{s:b_}{a C dx:bc}{fs:List (Str×V)}{f:Str}{v:V}{A:gg}{E:aC->b_->Prop}
end
section
variable {X:Cx}{o e value:Expr}{f:Str}{pos pos' tpos:Pos}{ta tv:TE}
end
section
variable {X:Cx}{pins:List (bc×Obj)}{σ:St}{H:Hp}{s:b_}{A:gg}{E:aC->b_->Prop}{Q:aC->b_->Prop}{c:aC}{b:Bool}
inductive TyOf(K:c_)(H:Hp):V->aC->Prop where
 |non:TyOf K H .non (.type "NoneType")
 |bl (x:Bool):TyOf K H (.bl x) (.type "bool")
 |int (i:Int):TyOf K H (.int i) (.type "int")
 |str (x:Str):TyOf K H (.str x) (.type "str")
 |flt (x:UInt64):TyOf K H (.flt x) (.type "float")
 |lst {a:bc} {xs:List V} (e:H a=ar (.lst xs)):TyOf K H (.ref a) (.type "list")
 |frz {a:bc} {o:Obj} {xs:List V} (e:H a=ar (.frz o (.lst xs))):TyOf K H (.ref a) (.type "list")
 |tup {a:bc} {xs:List V} (e:H a=ar (.tup xs)):TyOf K H (.ref a) (.type "tuple")
 |dK {a:bc} {kvs:List (Key×V)} (e:H a=ar (.dK kvs)):TyOf K H (.ref a) (.type "dict")
 |dT {a:bc} {kvs:List (List Key×V)} (e:H a=ar (.dT kvs)):TyOf K H (.ref a) (.type "dict")
 | ins {a C dx:bc} {fs:List (Str×V)} (e:H a=ar (.ins C dx fs)) (cl:Cls K C) (ha:R0 K (.ref C) "__class__"=ar (ar (.builtin "object.__class__")))
   (hn:W.specialIn K (.builtin "object.__class__") "__get__"=ar (ar (.builtin "getset_descriptor.__get__"))) (htk:W.takesIn K (.builtin "object.__class__")=ar cn)
   (hm:W.mroIn K C (.type "object")=ar cn):TyOf K H (.ref a) (.ref C)
theorem A1{x:V}{u t:aC}(I:Inv X pins σ H s)(Z:RelV x u)(T:TyOf X.K H x t)(e:sb X.K t c=ar b)(h:∀tk,Q (.bool b) {s with toks:=tk}):
  ed (fb X.prog X.w) A (call (.builtin "isinstance") [u,c]) Q E s:=by
 cases T with
 |non=>cases (show u=h_ from Z);exact Oq Q6 I.kIn q0 e (λz=>nomatch z) h
 |bl y=>cases (show u=v_ y from Z);exact Oq W.kitx_bool I.kIn q0 e (λz=>nomatch z) h
 |int i=>obtain⟨t,q⟩:=(show ∃t,u=r_ i t from Z);cases q;exact Oq W.kitx_int I.kIn q0 e (λz=>nomatch z) h
 |str y=>obtain⟨t,q⟩:=(show ∃t,u=R8 y t from Z);cases q;exact Oq W.kitx_str I.kIn q0 e (λz=>nomatch z) h
 |flt y=>obtain⟨t,q⟩:=(show ∃t,u=SL y t from Z);cases q;exact Oq W.kitx_float I.kIn q0 e (λz=>nomatch z) h
 | @lst a xs ea=>
  cases (show u=ee a from Z);obtain⟨_,_,n,_,Y⟩:=(show bB X.prog X.w H s.heap a (.lst xs)from I.hok a _ ea);exact Oq Qq I.kIn ⟨_,Y,rfl⟩ e (λz=>nomatch z) h
 | @frz a ob xs ea=>
  cases (show u=ee a from Z);obtain⟨_,_,_,n,_,Y⟩:=(show bB X.prog X.w H s.heap a (.frz ob (.lst xs))from I.hok a _ ea);exact Oq Qq I.kIn ⟨_,Y,rfl⟩ e (λz=>nomatch z) h
 | @tup a xs ea=>
  cases (show u=ee a from Z);obtain⟨_,_,_,p⟩:=(show bB X.prog X.w H s.heap a (.tup xs)from I.hok a _ ea);obtain⟨o,Y,U,_⟩:=p;exact Oq W.kitx_tuple I.kIn ⟨o,Y,U⟩ e (λz=>nomatch z) h
 | @dK a kvs ea=>
  cases (show u=ee a from Z);obtain⟨_,_,vs,_,p⟩:=(show bB X.prog X.w H s.heap a (.dK kvs)from I.hok a _ ea);obtain⟨o,es,ep,Y,U,_⟩:=p;exact Oq Qs I.kIn ⟨o,Y,U.1⟩ e (λz=>nomatch z) h
 | @dT a kvs ea=>
  cases (show u=ee a from Z);obtain⟨_,_,xs,_,o,es,ep,Y,U,_⟩:=(show bB X.prog X.w H s.heap a (.dT kvs)from I.hok a _ ea);exact Oq Qs I.kIn ⟨o,Y,U.1⟩ e (λz=>nomatch z) h
 | @ins a C dx fs ea cl ha hn htk hm=>
  cases (show u=ee a from Z);obtain⟨S,O,_⟩:=fB I.hok ea;obtain⟨od,J,_⟩:=O.look;exact Oq (W.kitx_own (cl.get _) cl.hd ha hn htk hm) I.kIn J e (λz=>nomatch z) h
end
structure Room(k:Nat)(A:gg):Prop where
 hd:A.handled=none
 dp:A.depth+3*k+5<recursionLimit
 un:A.units+16*k+200<u3
theorem Room.mono{j k:Nat}{A:gg}(r:Room k A)(h:j<=k):Room j A:=⟨r.hd,by have:=r.dp;omega,by have:=r.un;omega⟩
theorem Room.deeper{k:Nat}{A:gg}(r:Room (k+1) A)(env:Env):Room k (A.deeper env):=
 ⟨r.hd,by have:=r.dp;show A.depth+1+3*k+5<_;omega,by have:=r.un;show A.units+3+16*k+200<_;omega⟩
theorem Room.depth{k:Nat}{A:gg}(r:Room k A):A.depth<recursionLimit:=by have:=r.dp;omega
def Fk:TA:=λ_ H Q=>Q [] H
def zA(ta:TE)(tr:TA):TA:=λσ H Q=>ta σ H λx H1=>tr σ H1 λxs H2=>Q (x::xs) H2
section
variable {X:Cx}{e:Expr}{es:List Expr}{te:TE}{t:TA}{pos:Pos}
theorem j8:PA X [] Fk:=λ_ _ _ _ H Q I h=>Q7 ⟨[],H,I,.nil,h⟩
theorem eT(Y:PE X e te)(Z:PA X es t)(hs:dV (e::es) X.env=(dt,hO e X.env)::dV es X.env:=by rfl):PA X (e::es) (zA te t):=by intro pos pins s σ H Q I h;rw[hs];show ed _ _ (spliced ((dt,hO e X.env)::wd pos (dV es X.env))) _ _ s;refine Calls.spliced_cons (dJ (Y pins s σ H _ I h) λu s1 ⟨x,H1,I1,r1,q1⟩=>?_);exact dJ (Z pos pins s1 σ H1 _ I1 q1) λus s2 ⟨xs,H2,I2,r2,q2⟩=>⟨x::xs,H2,I2,.cons r1 r2,q2⟩
def Mi(t:TA):TE:=λσ H Q=>t σ H λxs H1=>xs.length<=sizeLine/\∀p,H1 p=none->Q (.ref p) (upd H1 p (.tup xs))
def Mj(t:TA):TE:=λσ H Q=>t σ H λxs H1=>xs.length<=sizeLine/\∀p,H1 p=none->Q (.ref p) (upd H1 p (.lst xs))
theorem Cy{x1}(h:PA X es t):PE X (.Tuple es x1 pos) (Mi t):=by intro pins s σ H Q I Z;refine wpAny_Tuple_spliced (dJ (h pos pins s σ H _ I Z) λus s1 ⟨xs,H1,I1,r,z,q⟩=>⟨by rw[<-r.length];exact z,?_⟩);have hf:H1 s1.heap.objs.size=none:=I1.hok.fresh (Nq _);refine⟨.ref s1.heap.objs.size,upd H1 s1.heap.objs.size (.tup xs),I1.laid (t':=s1.toks) (λb u e=>Nm _ e) (Nq _) ?_,rfl,q _ hf⟩;exact⟨uq z,us,r,⟨_,Nw _ rfl,rfl,_,rfl⟩⟩
theorem HJ(h:PA X es t):PE X (.List es pos) (Mj t):=by intro pins s σ H Q I Z;refine wpAny_List_spliced (dJ (h pos pins s σ H _ I Z) λus s1 ⟨xs,H1,I1,r,z,q⟩=>⟨by rw[<-r.length];exact z,?_⟩);have hf:H1 s1.heap.objs.size=none:=I1.hok.fresh (Nq _);refine⟨.ref s1.heap.objs.size,upd H1 s1.heap.objs.size (.lst xs),I1.laid (t':=s1.toks) (λb u e=>Nm _ e) (Nq _) ?_,rfl,q _ hf⟩;exact⟨z,us,0,r,Nw _ rfl⟩
end
abbrev Sp:=List V->Hp->VK->XK->Prop
abbrev Cd:=List Env->Hp->b_->XK->aC->b_->Prop
structure aF(P:eb)(w:eK)(K:c_)(mg:Str->Option aC)(base:f')(A:gg)(outer:List Env)(s:b_)(H:Hp):Prop where
 frames:A.frames=ar outer
 mod:Mod K mg base
 bs:∀b o,base.get? b=ar o->s.heap.get? b=ar o/\H b=none
 bsz:base.objs.size<=s.heap.objs.size
 funs:s.heap.FunFrames base outer
 frf:∀b∈kP outer,H b=none
 hok:iG P w H s.heap
 bare:B' s.gens
def CE(outer:List Env)(P:eb)(w:eK)(H:Hp)(s:b_)(Q:VK)(u:aC)(s':b_):Prop:=
 ∃v H',s'.os=s.os/\B' s'.gens/\Un (kP outer) [] H H' s.heap s'.heap/\iG P w H' s'.heap/\RelV v u/\Q v H'
def CR(CX:Cd)(outer:List Env)(P:eb)(w:eK)(H:Hp)(s:b_)(Q:VK)(E:XK)(r:TH)(s':b_):Prop:=
 match r with
 | .ok (.ret u)=>CE outer P w H s Q u s'
 | .ok _=>False
 | .error e=>CX outer H s E e s'
structure FnOk(P:eb)(w:eK)(K:c_)(mg:Str->Option aC)(base:f')(CX:Cd)(k:Nat)(f:bc)(fd:fg)(ps:List Str)(sp:Sp):Prop where
 len:∀vs H Q E,sp vs H Q E->vs.length=ps.length
 run:∀(A:gg) (outer:List Env) (s:b_) (H:Hp) (args:Args) (us:List aC) (vs:List V) (Q:VK) (E:XK),Room k A->aF P w K mg base A outer s H->N_ s fd args (ps.zip us)->bg vs us->sp vs H Q E->
  t_ (fb P w) A (.call (.ref f) args) (CR CX outer P w H s Q E) s
section
variable {X:Cx}{pins:List (bc×Obj)}{σ:St}{H:Hp}{s s':b_}
theorem Inv.env0(I:Inv X pins σ H s):aF X.prog X.w X.K X.mg X.base X.A X.stack s H:=
 ⟨I.ok.frames,I.ok.mod,I.bs,Nv I.ok.bsz I.sz,I.stack,I.stkFree,I.hok,I.bare⟩
theorem Inv.after{Q:VK}{u:aC}(I:Inv X pins σ H s)(h:CE X.stack X.prog X.w H s Q u s'):EP X pins σ Q u s':=by obtain⟨v,W,os,bare,un,Y,r,q⟩:=h;obtain⟨U,g,d,t,Z⟩:=s';obtain rfl:Z=s.os:=os;exact⟨v,W,I.call (h':=U) (g':=g) (d':=d) (t':=t) (ch:=[]) un Y bare (λb z=>absurd z (by simp)),r,q⟩
end
def Kj(sp:Sp)(dvs:List V)(E:XK)(t:TA):TE:=λσ H Q=>t σ H λvs H1=>sp (vs++dvs) H1 Q E
def Binds(K:c_)(fd:fg)(ps:List Str)(ds:List aC):Prop:=
 ∀(s:b_) (us:List aC),K.In s.heap->(us++ds).length=ps.length->N_ s fd ⟨us,[]⟩ (ps.zip (us++ds))
theorem Binds.all{K:c_}{X:fg}{Z:List Str}(h:∀us:List aC,us.length=Z.length->Ta X ⟨us,[]⟩=a_ (Z.zip us)):Binds K X Z []:=λs us _ Y=>by rw[NT]at Y⊢;exact .of_eq (h us Y)
def qK(CX:Cd)(X:Cx)(E:XK):Prop:=∀(pins:List (bc×Obj)) (σ:St) (H:Hp) (s:b_) (e:aC) (s':b_),Inv X pins σ H s->CX X.stack H s E e s'->X.xe e s'
section
variable {X:Cx}{CX:Cd}{k:Nat}{f C:bc}{fd:fg}{ps:List Str}{sp:Sp}{dvs:List V}{ds:List aC}{E:XK}{x m:Str}{p pos apos:Pos}{e o:Expr}{es:List Expr}{ta:TE}{t:TA}
theorem HK{Z:List (bc×Obj)}{W:St}{H:Hp}{s:b_}{Q:VK}{us:List aC}{vs:List V}(F:FnOk X.prog X.w X.K X.mg X.base CX k f fd ps sp)(R:Room k X.A)(T:Binds X.K fd ps ds)(S:bg dvs ds)(P:qK CX X E)
  (I:Inv X Z W H s) (r:bg vs us) (h:sp (vs++dvs) H Q E):ed (fb X.prog X.w) X.A (call (.ref f) us) (EP X Z W Q) X.xe s:=by
 have U:bg (vs++dvs) (us++ds):=r.append S;have O:(us++ds).length=ps.length:=by rw[<-U.length];exact F.len _ _ _ _ h
 refine Q8 (PK (F.run X.A X.stack s H ⟨us,[]⟩ (us++ds) (vs++dvs) Q E R I.env0 (T s us I.kIn O) U h) λr s' Y=>?_);cases r with
 |error e=>exact P Z W H s e s' I Y
 |ok fl=>
  cases fl with
  |ret u=>exact I.after Y
  |next=>exact j_ Y
  |brk=>exact j_ Y
  |cont=>exact j_ Y
theorem zB(F:FnOk X.prog X.w X.K X.mg X.base CX k f fd ps sp)(P:Room k X.A)(R:Gl X x)(O:X.mg x=ar (.ref f))(J:z3 X.K (.ref f)=cn)(U:Binds X.K fd ps ds)(T:bg dvs ds)(L:qK CX X E)
  (S:PA X (e::es) t) (Z:(x==("__debug__":Str))=false:=by decide) (N:dV (e::es) X.env=(dt,hO e X.env)::dV es X.env:=by rfl) (Y:(wd pos (dV es X.env)).any (·.1)=false:=by rfl):
  PE X (.Call (.Name x p) (e::es) [] pos) (Kj sp dvs E t):=by
 intro pins s σ H Q I h;refine PC (ny I R O ?_ Z);refine W.callWith_K (h₀:=X.base) I.ok.mod.kin J (dJ (S pos pins s σ H _ I h) λus s1 ⟨vs,H1,I1,r,q⟩=>⟨I1.kIn,?_⟩) N Y;exact HK F P U T L I1 r q
structure Mk(K:c_)(C f:bc):Prop where
 makes:W.makesIn K C=cn
 init:R0 K (.ref C) "__init__"=ar (ar (.ref f))
 fn:W.isFn K (.ref f)=cn
 kp:z3 K (.ref C)=cn
end
section
variable {X:Cx}{CX:Cd}{k:Nat}{f C:bc}{fd:fg}{ps ks:List Str}{sp:Sp}{E:XK}{x m:Str}{p pos apos kpos:Pos}{e o:Expr}{es:List Expr}{kws:List SZ}{te ta:TE}{t tk:TA}{nm:Option Str}
structure KBinds(K:c_)(fd:fg)(ps ks:List Str)(g:List aC->List aC->List aC)(gV:List V->List V->List V):Prop where
 to:∀(s:b_) (us ws:List aC),K.In s.heap->(g us ws).length=ps.length->N_ s fd ⟨us,ks.zip ws⟩ (ps.zip (g us ws))
 rel:∀{vs:List V} {us:List aC} {zs:List V} {ws:List aC},bg vs us->bg zs ws->bg (gV vs zs) (g us ws)
variable {g:List aC->List aC->List aC}{gV:List V->List V->List V}
end
structure FnScope(N P:List Str)(sc:Scope):Prop where
 kind:sc.kind= .function
 co:sc.isCoroutine=dt
 gen:sc.isGenerator=dt
 nd:N.Nodup
 pre:N.take P.length=P
 par:∀x∈P,sc.names.lookup x=ar .local\/sc.names.lookup x=ar .cell
 nofree:∀y∈sc.names,y.2≠ .free
theorem tF{Z:Str->Option oo}{x:Str}:∀{binds:List (Str×aC)} {m:Str->Option aC},(∀v,(x,v)∉binds)->Tb Z binds m x=m x
 |[],_,_=>rfl
 | (n,v)::r,m,h=>by
  unfold Tb;rw[tF λw hw=>h w (Nx _ hw)];split
  ·have:x≠n:=by rintro rfl;exact h v NF
   simp[this]
  ·rfl
theorem tG{Z:Str->Option oo}{x:Str}:∀{binds:List (Str×aC)} {m:Str->Option aC},(∀v,(x,v)∉binds)->Tc Z binds m x=m x
 |[],_,_=>rfl
 | (n,v)::r,m,h=>by
  unfold Tc;rw[tG λw hw=>h w (Nx _ hw)];split
  ·rfl
  ·have:x≠n:=by rintro rfl;exact h v NF
   simp[this]
theorem tH{Z:Str->Option oo}{x:Str}{v:aC}:∀{P:List Str} {vs:List aC} {i:Nat} {m:Str->Option aC},P.Nodup->P[i]? =ar x->vs[i]? =ar v->Z x=ar .local->
  Tb Z (P.zip vs) m x=ar v
 |[],_,_,_,_,h,_,_=>by simp at h
 |_::_,[],_,_,_,_,h,_=>by simp at h
 |p::P,w::vs,0,m,nd,h1,h2,hk=>by
  simp at h1 h2;subst h1;subst h2;show Tb Z ((p,w)::P.zip vs) m p=_;unfold Tb;rw[tF λv Y=>(Ol.mp nd).1 (Qa Y).1,if_pos hk];simp
 |p::P,w::vs,i+1,m,nd,h1,h2,hk=>by
  show Tb Z ((p,w)::P.zip vs) m x=_;unfold Tb;exact tH (i:=i) (Ol.mp nd).2 (by simpa using h1) (by simpa using h2) hk
theorem tI{Z:Str->Option oo}{x:Str}{v:aC}:∀{P:List Str} {vs:List aC} {i:Nat} {m:Str->Option aC},P.Nodup->P[i]? =ar x->vs[i]? =ar v->Z x≠ar .local->
  Tc Z (P.zip vs) m x=ar v
 |[],_,_,_,_,h,_,_=>by simp at h
 |_::_,[],_,_,_,_,h,_=>by simp at h
 |p::P,w::vs,0,m,nd,h1,h2,hk=>by
  simp at h1 h2;subst h1;subst h2;show Tc Z ((p,w)::P.zip vs) m p=_;unfold Tc;rw[tG λv Y=>(Ol.mp nd).1 (Qa Y).1,if_neg hk];simp
 |p::P,w::vs,i+1,m,nd,h1,h2,hk=>by
  show Tc Z ((p,w)::P.zip vs) m x=_;unfold Tc;exact tI (i:=i) (Ol.mp nd).2 (by simpa using h1) (by simpa using h2) hk
def start(N:List Str)(vs:List V):St:=vs.map ar++ey (N.length - vs.length) none
def mP(CX:Cd)(P:eb)(w:eK)(K:c_)(mg:Str->Option aC)(base:f')(N:List Str)(qual:Str)(scope:Scope)(f:bc)(cd:aC)(A:gg)(outer:List Env)(s:b_)(H:Hp)(E:XK):Cx where
 prog:=P
 w:=w
 K:=K
 mg:=mg
 base:=base
 A:=A.deeper (F_ qual scope s.heap.objs.size f cd)
 N:=N
 s₀:=s
 H₀:=H
 env:=F_ qual scope s.heap.objs.size f cd
 outer:=outer
 stack:=F_ qual scope s.heap.objs.size f cd::outer
 ex:=[]
 calm:=cn
 fn:=λ_=>cn
 pn:=[]
 xe:=λe s'=>ed (fb P w) (A.deeper (F_ qual scope s.heap.objs.size f cd)) (R_ (F_ qual scope s.heap.objs.size f cd) e) (λ_ s''=>CX outer H s E e s'') (λe' s''=>CX outer H s E e' s'') s'
theorem vW{Z:Scope}{n:Nat}{x:Str}(h:Z.names.lookup x=ar .cell):∃c,(lx n Z.names []).lookup x=ar c:=by have q:=Qm Z.names n [] (.inl h);exact OX.mp q
theorem A3{B:Cd}{P:eb}{w:eK}{K:c_}{I:Str->Option aC}{base:f'}{N U:List Str}{qual:Str}{scope:Scope}{f:bc}{J:aC}{A:gg}{outer:List Env}{s G:b_}{H:Hp}{E:XK}{us:List aC}{vs:List V}
  (S:FnScope N U scope) (t:A.handled=none) (Y:aF P w K I base A outer s H) (g:vs.length=U.length) (r:bg vs us)
  (x:InCallC s s.heap.objs.size (Tb (F_ qual scope s.heap.objs.size f J).kindOf (U.zip us) λ_=>none) (lx (s.heap.objs.size+1) scope.names []) (Tc (F_ qual scope s.heap.objs.size f J).kindOf (U.zip us) λ_=>none) G):
  Inv (mP B P w K I base N qual scope f J A outer s H E) [] (start N vs) H G:=by
 have o:U.length<=N.length:=by have:=QL List.length S.pre;rw[Oz]at this;omega
 obtain⟨O,d,rfl,F⟩:=x.done;have X:∀b:bc,b∉(mP B P w K I base N qual scope f J A outer s H E).ex:=λb z=>absurd (show b∈([]:List bc)from z) (by simp);refine⟨⟨Y.mod,S.kind,rfl,rfl,Nq _,λy z c O Z=>?_,λy T=>?_,λy c _ h=>?_,λ_=>t,Around.frames_deeper Y.frames,.inr ⟨rfl,rfl⟩,λb z=>absurd z (X b),Y.bs,Y.bsz,λb _ _=>X b,λb z=>absurd z (X b),Y.funs,Y.frf⟩,
  rfl,Y.bare,Un.kept F,⟨_,x.toInCall.ns,λi y v O Z j=>?_⟩,λy c h=>⟨_,x.cell y c h⟩,Y.hok.fresh (Nq _),λy c h=>?_,λp Q=>absurd (show p∈([]:List (bc×Obj))from Q) (by simp),Y.hok.kept F,?_⟩
 ·exact name_of_addr x.apart (Pk O) (Pk Z)
 ·have T:scope.names.lookup y=ar .cell\/scope.names.lookup y=ar .free:=T;rcases T with T|T
  ·exact vW T
  ·exact absurd rfl (S.nofree _ (Pk T))
 ·exact O1 (x.above y c (Pk h))
 ·have L:i<vs.length:=by
   unfold start at Z;by_cases L:i<vs.length
   ·exact L
   ·rw[PV (by simpa using L)]at Z;rw[List.getElem?_replicate]at Z;split at Z<;>cases Z
  have l:vs[i]? =ar v:=by
   unfold start at Z;rw[NZ (by simpa using L),NM]at Z;cases e:vs[i]? with
   |none=>rw[e]at Z;cases Z
   |some a=>rw[e]at Z;cases Z;rfl
  obtain⟨u,C,m⟩:=r.get l;have Q:U[i]? =ar y:=by rw[<-S.pre,Q9 (by omega)];exact O
  have R:U.Nodup:=by rw[<-S.pre];exact S.nd.sublist (List.take_sublist _ _)
  refine⟨u,m,?_⟩;rcases S.par y (N4 Q)with k|k
  ·exact .inl ⟨k,tH R Q C k⟩
  ·obtain⟨c,e⟩:=vW (n:=s.heap.objs.size+1) k;refine .inr ⟨.inl k,c,e,?_⟩;have q:=x.cell y c e;rw[tI R Q C (by show scope.names.lookup y≠_;rw[k];decide)]at q;exact q
 ·exact Y.hok.fresh (O1 (x.above y c (Pk h)))
 ·unfold start;show _=N.length;rw[Nn,Nl,List.length_replicate];omega
theorem GW{B:Cd}{P:eb}{w:eK}{K:c_}{F:Str->Option aC}{base:f'}{k:Nat}{f:bc}{name qual:Str}{params:RL}{body:List p_}{scope:Scope}{i kV O h Z ct oc:aC}{j od:Option bc}
  {l:Array (Option aC)} {N C:List Str} {sp:Sp} (d:K.lookup f=ar ⟨oc,od,.func (A_ name qual params body scope i kV O h j Z ct),l⟩) (z:R1 K Z qual=cn) (S:FnScope N C scope)
  (R:∀vs H Q E,sp vs H Q E->vs.length=C.length)
  (U:∀(A:gg) (outer:List Env) (s:b_) (H:Hp) (vs:List V) (Q:VK) (E:XK),Room k (A.deeper (F_ qual scope s.heap.objs.size f Z))->sp vs H Q E->
   ∃t,qH (mP B P w K F base N qual scope f Z A outer s H E) body t/\t {nx:=λ_ X=>Q .non X,rt:=Q} (start N vs) H):
  FnOk P w K F base B (k+1) f (A_ name qual params body scope i kV O h j Z ct) C sp:=by
 refine⟨R,λA outer s H args us vs Q E p G c r L=>?_⟩;have a:=R _ _ _ _ L;have g:K.In s.heap:=G.mod.kin.keeps λb o e=>(G.bs b o e).1;have lim:s.heap.NoLimit:=G.mod.nolimit.keeps λb o e=>(G.bs b o e).1;have T:∀y∈C.zip us,scope.names.lookup y.1=ar .local\/(scope.names.lookup y.1=ar .cell/\((lx (s.heap.objs.size+1) scope.names []).lookup y.1).isSome=cn):=λ⟨n,v⟩ hy=>by
  rcases S.par n (Qa hy).1 with q|q
  ·exact .inl q
  ·exact .inr ⟨q,Qm _ _ _ (.inl q)⟩
 refine codeAny_call_function p.depth (g _ _ d) rfl S.co S.gen rfl (W.codeRec_of g z) (c _ _ _ _ ?_);refine wpAny_newFunctionEnv_cells S.kind T λenv he s1 x=>?_;subst he;refine⟨lim.keeps x.toInCall.keep,codeAny_func ?_⟩;obtain⟨t,ht,hq⟩:=U A outer s H vs Q E (p.deeper _) L;have I:Inv (mP B P w K F base N qual scope f Z A outer s H E) [] (start N vs) H s1:=A3 S p.hd G a r x;refine Oc (ht [] s1 (start N vs) H _ I hq) (λfl s' hs=>?_) λe s' hs=>hs;have fin:∀{Y:St} {X:Hp} {v:V} {u:aC},Inv (mP B P w K F base N qual scope f Z A outer s H E) [] Y X s'->RelV v u->Q v X->CE outer P w H s Q u s':=
  λ{Y X v u} J m q=>⟨v,X,J.os,J.bare,J.base,J.hok,m,q⟩
 cases fl with
 |ret u=>
  obtain⟨v,Y,X,J,m,q⟩:=hs;exact fin J m q
 |next=>
  obtain⟨Y,X,J,q⟩:=hs;exact fin (v:=V.non) (u:=h_) J rfl q
 |brk=>
  obtain⟨_,_,_,q⟩:=hs;exact j_ q
 |cont=>
  obtain⟨_,_,_,q⟩:=hs;exact j_ q
section
variable {X:Cx}{x:Str}{p pos:Pos}{e:Expr}{es:List Expr}{t:TA}{id T:String}{r:List V->Hp->VK->Prop}
def Ml(r:List V->Hp->VK->Prop)(t:TA):TE:=λσ H Q=>t σ H λvs H1=>r vs H1 Q
theorem kT(O:d7 X (.builtin id) r)(U:Gl X x)(S:X.mg x=none)(W:lz x=ar (.builtin id))(P:PA X (e::es) t)(R:x≠"__name__":=by decide)(Y:(x==("__debug__":Str))=false:=by decide)
  (N:dV (e::es) X.env=(dt,hO e X.env)::dV es X.env:=by rfl) (Z:(wd pos (dV es X.env)).any (·.1)=false:=by rfl):PE X (.Call (.Name x p) (e::es) [] pos) (Ml r t):=by
 intro pins s σ H Q I h;refine PC (mO I U S W ?_ R Y);exact PyProof.Rows.callWith_builtin1 (dJ (P pos pins s σ H _ I h) λus s1 ⟨vs,H1,I1,r1,q1⟩=>O pins s1 σ H1 vs us Q I1 r1 q1) N Z
theorem lL(O:d7 X (.type T) r)(U:Gl X x)(S:X.mg x=none)(W:lz x=ar (.type T))(P:PA X (e::es) t)(R:x≠"__name__":=by decide)(Y:(x==("__debug__":Str))=false:=by decide)
  (N:dV (e::es) X.env=(dt,hO e X.env)::dV es X.env:=by rfl) (Z:(wd pos (dV es X.env)).any (·.1)=false:=by rfl):PE X (.Call (.Name x p) (e::es) [] pos) (Ml r t):=by
 intro pins s σ H Q I h;refine PC (mO I U S W ?_ R Y);exact OH (dJ (P pos pins s σ H _ I h) λus s1 ⟨vs,H1,I1,r1,q1⟩=>O pins s1 σ H1 vs us Q I1 r1 q1) N Z
end
end L2
namespace HT
open PySem PyProof.Rows
def lexLt:List Int->List Int->Bool
 |[],[]=>dt
 |[],_::_=>cn
 |_::_,[]=>dt
 |x::xs,y::ys=>if x=y then lexLt xs ys else decide (x<y)
theorem lexLt_cons(x y:Int)(xs ys:List Int):lexLt (x::xs) (y::ys)=if x=y then lexLt xs ys else decide (x<y):=rfl
theorem sI:lexLt [] []=false:=rfl
theorem qL(y:Int)(ys:List Int):lexLt [] (y::ys)=true:=rfl
theorem qM(x:Int)(xs:List Int):lexLt (x::xs) []=false:=rfl
theorem Cz(A:gg)(s:b_)(a:Int)(t:Tok)(c:Int)(u:Tok):∃e,SeqAt.EqAt A s (.int a t) (.int c u) e/\(e=cn↔a=c):=
 ⟨(a==c),SeqAt.EqAt.int_int a t c u,by simp⟩
theorem CA(A:gg)(s:b_)(a:Int)(t:Tok)(c:Int)(u:Tok)(prog:eb)(w:eK)(E:aC->b_->Prop)(Q:aC->b_->Prop)(h:Q (.bool (decide (a<c))) s):
  ed (fb prog w) A (richCompare .Lt (.int a t) (.int c u)) Q E s:=
 (PyProof.Rows.lt_int h:ed (fb prog w) A (kr .Lt (.int a t) (.int c u)) Q E s)
section
open PySem.SeqAt
open PySem.AutoSeq1 (wpAny_loadPart')
open PySem.MeetsSeq PySem.MeetsSeq2 PySem.MeetsSeq3
theorem sJ(l b:bc)(items Z:Array aC)(n J:Nat)(dd Q:Option bc)(L S:Array (Option aC))(ns X:List Int)(N:pb items.toList ns)(P:pb Z.toList X):
  Meets (Builtin.«tuple.__lt__» ⟨[.ref l,.ref b],[]⟩)
   (λ_ R s=>s.heap.get? l=ar {cls:=.type "tuple",dict:=dd,data:=.seq items n,slots:=L}/\s.heap.get? b=ar {cls:=.type "tuple",dict:=Q,data:=.seq Z J,slots:=S}/\
    R (.ok (.ret (.bool (lexLt ns X)))) s):=
 .of_wp λprog w A R s h=>by
  obtain⟨W,g,d,U,os⟩:=s;obtain⟨I,K,h⟩:=h;have f2:=AutoSeq1.sub_tuple_tuple;have G:items.size=ns.length:=by rw[<-N.length];simp
  have H:Z.size=X.length:=by rw[<-P.length];simp
  wp_walk using wpAny_loadPart' I,wpAny_loadPart' K,QC _ (λrest b s'=>b.1=none/\s'=⟨W,g,d,U,os⟩/\∃(vs ws:List aC) (ns' ms':List Int),rest=vs.zip ws/\
   pb vs ns'/\pb ws ms'/\ns'.length+Z.size=ms'.length+items.size/\R (.ok (.ret (.bool (lexLt ns' ms')))) ⟨W,g,d,U,os⟩) _
  case turn=>
   rintro⟨y,x⟩ rest b s' ⟨hb',rfl,vs,ws,ns',ms',hz,hvi,hwi,hlen,hR⟩;cases hvi with
   |nil=>rw[List.zip_nil_left]at hz;cases hz
   | cons a t hvi'=>
    cases hwi with
    |nil=>rw[List.zip_nil_right]at hz;cases hz
    | cons c u hwi'=>
     rw[Qb]at hz;injection hz with hyx hrest;injection hyx with hy hx;subst hy hx;rw[lexLt_cons]at hR;simp only[r7]at hlen;obtain⟨e,he,Y⟩:=Cz A.in1 ⟨W,g,d,U,os⟩ a t c u;refine Nk (he prog w _ _ ?_);cases e with
     |true=>
      rw[if_pos (Y.mp rfl)]at hR
      wp_walk
      exact⟨rfl,rfl,_,_,_,_,hrest,hvi',hwi',by omega,hR⟩
     |false=>
      rw[if_neg (λq=>absurd (Y.mpr q) OD)]at hR;have T:=CA A.in1 ⟨W,g,d,U,os⟩ a t c u prog w
      wp_walk using T
      exact⟨_,rfl,by simpa using hR⟩
  case fin=>
   rintro⟨b1,b2⟩ s' ⟨hb',rfl,vs,ws,ns',ms',hz,hvi,hwi,hlen,hR⟩;simp only at hb';subst hb';have O:lexLt ns' ms'=decide (items.size<Z.size):=by
    cases hvi with
    | nil=>
     cases hwi with
     |nil=>
      simp only[RT]at hlen;rw[sI];exact(N7 (by omega)).symm
     |cons c u hw=>
      simp only[RT,r7]at hlen;rw[qL];exact(NI (by omega)).symm
    | cons a t O=>
     cases hwi with
     |nil=>
      simp only[RT,r7]at hlen;rw[qM];exact(N7 (by omega)).symm
     |cons c u hw=>
      rw[Qb]at hz;cases hz
   rw[O]at hR
   wp_walk
   exact⟨_,rfl,by simpa [Builtin.Tuple.tupleCompareSizes]using hR⟩
  case h=>
   exact⟨rfl,rfl,items.toList,Z.toList,ns,X,rfl,N,P,by omega,h⟩
end
section
variable {prog:eb}{w:eK}{A:gg}{E:aC->b_->Prop}{s:b_}
theorem lt_tupInts{l b:bc}{items Z:Array aC}{ns W:List Int}{Q:aC->b_->Prop}(H:Tq s.heap l items)(L:Tq s.heap b Z)(J:pb items.toList ns)(O:pb Z.toList W)
  (I:A.units<u3) (h:Q (.bool (lexLt ns W)) s):ed (fb prog w) A (kr .Lt (.ref l) (.ref b)) Q E s:=by
 obtain⟨⟨cls,dd,data,N⟩,R,P,n,hd⟩:=id H;obtain⟨⟨S,U,data2,T⟩,Y,X,K,hd2⟩:=id L;simp only at P hd X hd2;subst P hd X hd2;exact richCompare_meets_room (op:=.Lt) ⟨_,R,rfl⟩ ⟨_,Y,rfl⟩ PySem.F.slot_tuple_lt PySem.F.entry_tuple_lt (PySem.F.args_tuple_lt_2 _ _) (sJ l b items Z n K dd U N T ns W J O)
  ⟨R,Y,show v_ (lexLt ns W)≠Value.notImplemented/\Q (.bool (lexLt ns W)) s from⟨(λx=>nomatch x),h⟩⟩ I
theorem cat_tup{t b:bc}{vs Z:List aC}{Q:aC->b_->Prop}(H:Tq s.heap t vs.toArray)(K:Tq s.heap b Z.toArray)(P:vs≠[])
  (J:Z=[]->Q (.ref t) s) (I:Z≠[]->Q (.ref s.heap.objs.size) {s with heap:=s.heap.push {cls:=.type "tuple",data:=.seq (vs++Z).toArray}})
  (S:vs.length+Z.length<=sizeLine):ed (fb prog w) A (u0 .Add (.ref t) (.ref b)) Q E s:=by
 obtain⟨⟨cls,dd,data,O⟩,T,N,n,hd⟩:=id H;obtain⟨⟨R,X,data2,U⟩,Y,W,L,hd2⟩:=id K;simp only at N hd W hd2;subst N hd W hd2;have e:vs.toArray++Z.toArray=(vs++Z).toArray:=by simp
 by_cases hw:Z=[]
 ·exact So ⟨_,T,rfl⟩ ⟨_,Y,rfl⟩ Rv Sg Qn Qc (P7 _ _)
   (tuple_addW1 t b vs.toArray Z.toArray n L dd X O U (by simpa using P) (by simp[hw])) ⟨T,Y,J hw⟩
 ·refine So ⟨_,T,rfl⟩ ⟨_,Y,rfl⟩ Rv Sg Qn Qc (P7 _ _)
   (tuple_addW2 t b vs.toArray Z.toArray n L dd X O U (by simpa using P) (by simpa using hw) (by rw[NA,NA];exact S)) ⟨T,Y,?_⟩
  rw[e];exact I hw
def sIx(n d:Nat):Option Int->Nat
 |none=>d
 |some v=>if v<0 then (v+(n:Int)).toNat else min v.toNat n
theorem sIx_none(n d:Nat):sIx n d none=d:=rfl
theorem sIx_nat(n d k:Nat):sIx n d (ar (k:Int))=min k n:=by show(if (k:Int)<0 then ((k:Int)+(n:Int)).toNat else min (k:Int).toNat n)=min k n;rw[if_neg (by omega),N5]
theorem HL(n d:Nat)(Z:d<=n)(o:Option Int):sIx n d o<=n:=by
 cases o with
 |none=>exact Z
 |some v=>
  show(if v<0 then (v+(n:Int)).toNat else min v.toNat n)<=n;by_cases hv:v<0
  ·rw[if_pos hv];omega
  ·rw[if_neg hv];exact Nat.min_le_right _ _
theorem zF(v:Int)(n d:Nat):(if v<0 then max (v+(n:Int)) 0 else min v (n:Int))=((sIx n d (ar v):Nat):Int):=by
 show(if v<0 then max (v+(n:Int)) 0 else min v (n:Int))=(((if v<0 then (v+(n:Int)).toNat else min v.toNat n):Nat):Int);by_cases hv:v<0
 ·simp only[if_pos hv];omega
 ·simp only[if_neg hv];omega
theorem xY(Y Z:Option Int)(n:Nat):w8 Y Z 1 (n:Int)=(((sIx n 0 Y:Nat):Int),((sIx n n Z:Nat):Int)):=by
 have X:¬ ((1:Int)<0):=by omega
 unfold w8;simp only[X,if_false];refine Qv ?_ ?_
 ·cases Y with
  |none=>rfl
  |some v=>exact zF v n 0
 ·cases Z with
  |none=>rfl
  |some v=>exact zF v n n
theorem xZ(i j:Nat):p0 (i:Int) (j:Int) 1=j - i:=by
 unfold p0;have Z:(1:Int)>0:=by omega
 simp only[Z,if_true,Int.ediv_one];split<;>omega
theorem qN{v:aC}{o:Option Int}{Q:Option Int->b_->Prop}(p:Sl v o)(h:Q o s):ed (fb prog w) A (Builtin.Slice.slicePartIndex v) Q E s:=by
 cases p with
 |none=>exact slicePart_none h
 |int i t=>exact slicePart_int h
theorem sliceApplied_gen{S:bc}{T U:aC}{Z Y:Option Int}{n:Nat}{Q:Int×Int×Nat->b_->Prop}(hs:s.heap.IsSliceOf S T U .none)(P:Sl T Z)(R:Sl U Y)
  (h:Q (((sIx n 0 Z:Nat):Int),1,sIx n n Y - sIx n 0 Z) s):ed (fb prog w) A (Builtin.Slice.sliceApplied (.ref S) (a_ (n:Int))) Q E s:=by
 obtain⟨os,X,O,W⟩:=id hs;unfold Builtin.Slice.sliceApplied Builtin.Slice.sliceFields;refine Nk (Nk (Ow X W (x:=T) rfl (Nk (Ow X W (x:=U) rfl (Nk (Ow X W (x:=.none) rfl (Nr ?_)))))));refine Nk (slicePart_none ?_);show ed _ _ (if ((1:Int)==0)=cn then _ else _) _ _ s;rw[if_neg (by decide)];refine Nk (qN P (Nk (qN R (Nk (Nr ?_)))));show ed _ _ (match w8 Z Y 1 (n:Int)with|(Z,Y)=>a_ (Z,(1:Int),p0 Z Y 1)) _ _ s;rw[xY Z Y n];show ed _ _ (a_ (((sIx n 0 Z:Nat):Int),(1:Int),p0 ((sIx n 0 Z:Nat):Int) ((sIx n n Y:Nat):Int) 1)) _ _ s;rw[xZ];exact Nr h
theorem CB(xs:Array aC)(i k:Nat):((d_ k).filterMap λ(m:Nat)=>xs[((i:Int)+(m:Int)*1).toNat]?).toArray=((xs.toList.drop i).take k).toArray:=by
 have e:(λ(m:Nat)=>xs[((i:Int)+(m:Int)*1).toNat]?)=λm=>xs[i+m]? :=by
  funext m;have:((i:Int)+(m:Int)*1).toNat=i+m:=by omega
  rw[this]
 rw[e];have:=pick_run xs i k;rw[List.filterMap_map]at this;have e2:((λx=>xs[x]?)∘λx=>i+x)=λm=>xs[i+m]? :=rfl;rw[e2]at this;rw[this]
theorem getItem_tuple_cut{t T:bc}{items:Array aC}{O N:aC}{Y X:Option Int}{Q:aC->b_->Prop}(W:Tq s.heap t items)(hs:s.heap.IsSliceOf T O N .none)(I:Sl O Y)(L:Sl N X)
  (H:¬ (sIx items.size 0 Y=0/\sIx items.size items.size X=items.size))
  (h:Q (.ref s.heap.objs.size) {s with heap:=s.heap.push {cls:=.type "tuple",data:=.seq ((items.toList.drop (sIx items.size 0 Y)).take (sIx items.size items.size X - sIx items.size 0 Y)).toArray}})
  (K:items.size<=sizeLine):ed (fb prog w) A (Sr (.ref t) (.ref T)) Q E s:=by
 have Z:sizeOk (.seq ((items.toList.drop (sIx items.size 0 Y)).take (sIx items.size items.size X - sIx items.size 0 Y)).toArray):=by show((items.toList.drop (sIx items.size 0 Y)).take (sIx items.size items.size X - sIx items.size 0 Y)).toArray.size<=sizeLine;rw[NA,Oz,O9,Pl];omega
 have G:sIx items.size items.size X<=items.size:=HL _ _ (Nq _) X;obtain⟨os,U,P,J⟩:=id hs;have S:s.TypeIs (.ref T) "slice":=⟨os,U,P⟩;unfold Sr
 try with_reducible refine Oi ?_
 first|refine Nk (Nr ?_)|skip
 refine Nk (wpAny_sequenceKey W.typeIs (by decide) ?_);refine Nk (wpAny_callSpecial?_slot (name:=i_ "__getitem__") W.typeIs OO
  (Os OO W.typeIs entry_tuple_getitem ?_ (args_tuple_getitem _ _)))
 show ed _ _ (Builtin.Tuple.tupleItemsOf (.ref t)>>=_) _ _ s;refine Nk (tupleItemsOf_ W ?_);refine Nk (Qy S ?_);rw[if_pos (by decide)];refine Nk (sliceApplied_gen hs I L ?_);have R:¬ ((((sIx items.size 0 Y:Nat):Int)==0 && (1:Int)==1 && (sIx items.size items.size X - sIx items.size 0 Y)==items.size)=cn):=by intro q;rw[OA,OA]at q;have C:((sIx items.size 0 Y:Nat):Int)=0:=Tu q.1.1;have F:sIx items.size items.size X - sIx items.size 0 Y=items.size:=Tu q.2;exact H ⟨by omega,by omega⟩
 show ed _ _ (if (((sIx items.size 0 Y:Nat):Int)==0 && (1:Int)==1 && (sIx items.size items.size X - sIx items.size 0 Y)==items.size)=cn then _ else _) _ _ s;rw[if_neg R,CB];first
  |exact Nk (m:=q_ _) (Od (Nr ⟨_,rfl,Nr h⟩) Z)
  |exact Nk (m:=q_ _) (Od (Nk (Nr (Nr ⟨_,rfl,Nr h⟩))) Z)
  |exact Nk (Nk (m:=q_ _) (Od (Nr (Nr ⟨_,rfl,Nr h⟩)) Z))
  |exact Nk (Nk (m:=q_ _) (Od (Nr ⟨_,rfl,Nr h⟩) Z))
end
end HT
namespace L2
open PySem PySem.Spec PyProof.Rows
abbrev TO:=St->Hp->(Option Int->Hp->Prop)->Prop
def PO(X:Cx)(e:Option Expr)(t:TO):Prop:=
 ∀(pins:List (bc×Obj)) (s:b_) (σ:St) (H:Hp) (Q:Option Int->Hp->Prop),Inv X pins σ H s->t σ H Q->
  ed (fb X.prog X.w) X.A (evalPart e X.env) (λu s'=>∃o H',Inv X pins σ H' s'/\Sl u o/\Q o H') X.xe s
def Fl:TO:=λ_ H Q=>Q none H
def Kk(t:TE):TO:=λσ H Q=>t σ H λx H1=>∃i,x= .int i/\Q (ar i) H1
theorem Ra{ns:List Int}:∀{us:List aC},bg (ns.map V.int) us->pb us ns:=by
 induction ns with
 |nil=>intro us r;rw[Ov]at r;cases r;exact .nil
 | cons n ns ih=>
  intro us r;rw[NH]at r;cases r with
  |cons r1 r2=>
   obtain⟨t,e⟩:=r1;subst e;exact .cons n t (ih r2)
section
variable {X:Cx}{e:Expr}{te:TE}{lo hi:Option Expr}{tl th:TO}{pos p2:Pos}
theorem Fm:PO X none Fl:=by intro pins s σ H Q I h;rw[evalPart_none];exact Nr ⟨none,H,I,.none,h⟩
theorem Fn(h:PE X e te):PO X (ar e) (Kk te):=by intro pins s σ H Q I hw;rw[evalPart_some];refine dJ (h pins s σ H _ I hw) λu s1 ⟨x,H1,I1,r1,q1⟩=>?_;obtain⟨i,rfl,q⟩:=q1;obtain⟨t,rfl⟩:=r1;exact⟨ar i,H1,I1,.int i t,q⟩
def GX(X:Cx)(r:V->Option Int->Option Int->Hp->VK->Prop):Prop:=
 ∀(pins:List (bc×Obj)) (s:b_) (σ:St) (H:Hp) (x:V) (v vl vu:aC) (lo hi:Option Int) (sl:bc) (Q:VK),Inv X pins σ H s->RelV x v->s.heap.IsSliceOf sl vl vu .none->Sl vl lo->Sl vu hi->r x lo hi H Q->
  ∃T id,typeLookup (.type T) "__getitem__"=a_ (ar (.builtin id))/\s.TypeIs v T/\ed (fb X.prog X.w) X.A (Sr v (.ref sl)) (EP X pins σ Q) X.xe s
theorem GX.or{r S:V->Option Int->Option Int->Hp->VK->Prop}(h:GX X r)(h':GX X S):GX X (λx lo hi H Q=>r x lo hi H Q\/S x lo hi H Q):=by
 intro pins s σ H x v U Z lo hi W Q I Y hs T pu q;rcases q with q|q
 ·exact h pins s σ H x v U Z lo hi W Q I Y hs T pu q
 ·exact h' pins s σ H x v U Z lo hi W Q I Y hs T pu q
def M3(r:V->Option Int->Option Int->Hp->VK->Prop)(te:TE)(tl th:TO):TE:=λσ H Q=>te σ H λx H1=>tl σ H1 λl H2=>th σ H2 λu H3=>r x l u H3 Q
theorem CC{r:V->Option Int->Option Int->Hp->VK->Prop}(U:GX X r)(P:PE X e te)(O:PO X lo tl)(S:PO X hi th):PE X (.Subscript e (.Slice lo hi none p2) pos) (M3 r te tl th):=by intro pins s σ H Q I h;refine Subscript_ (dJ (P pins s σ H _ I h) λv s1 ⟨x,H1,I1,r1,q1⟩=>?_);refine wpAny_Slice (dJ (O pins s1 σ H1 _ I1 q1) λvl s2 ⟨l,H2,I2,pl,q2⟩=>dJ (S pins s2 σ H2 _ I2 q2) λvu s3 ⟨u,H3,I3,pu,q3⟩=>?_);rw[evalPart_none];refine Nr ?_;have Z:Inv X pins σ H3 {s3 with heap:=s3.heap.push {cls:=.type "slice",data:=.fields #[vl,vu,.none]}}:=I3.kept (t':=s3.toks) λb N q=>Nm _ q;obtain⟨T,id,Y,R,W⟩:=U pins {s3 with heap:=s3.heap.push {cls:=.type "slice",data:=.fields #[vl,vu,.none]}} σ H3 x v vl vu l u s3.heap.objs.size Q Z r1 (Heap.IsSliceOf.new ..) pl pu q3;show ed (fb X.prog X.w) X.A (subscriptTail e (.Slice lo hi none p2) v (.ref s3.heap.objs.size)) (EP X pins σ Q) X.xe {s3 with heap:=s3.heap.push {cls:=.type "slice",data:=.fields #[vl,vu,.none]}};exact tail_any (ops:=[.ref s3.heap.objs.size,v]) R Y W (by with_unfolding_all rfl)
def sL(xs:List V)(lo hi:Option Int):List V:=(xs.drop (HT.sIx xs.length 0 lo)).take (HT.sIx xs.length xs.length hi - HT.sIx xs.length 0 lo)
theorem pC(xs:List V)(lo hi:Option Int):(sL xs lo hi).length<=xs.length:=by unfold sL;rw[Oz,O9];omega
def Mm(K:c_):V->Option Int->Option Int->Hp->VK->Prop:=λx lo hi H Q=>∃a xs,x= .ref a/\ot K H a xs/\
 ¬ (HT.sIx xs.length 0 lo=0/\HT.sIx xs.length xs.length hi=xs.length)/\∀p,H p=none->Q (.ref p) (upd H p (.tup (sL xs lo hi)))
theorem HM:GX X (Mm X.K):=by
 intro pins s σ H x v P S lo hi R Q I W hs U pu h;obtain⟨a,xs,rfl,T,hw,q⟩:=h;cases W;obtain⟨its,r,Y,Z⟩:=I.tuple T;have hlen:its.toArray.size=xs.length:=by rw[NA];exact r.length.symm
 refine⟨"tuple",_,PyProof.Rows.slot_tuple_getitem.lookup,Y.typeIs,?_⟩;refine HT.getItem_tuple_cut Y hs U pu (by rw[hlen];exact hw) ?_ (by rw[hlen];exact Z);rw[hlen];refine⟨.ref s.heap.objs.size,_,I.laid (t':=s.toks) (o:=.tup (sL xs lo hi)) (λb O q=>Nm _ q) (Nq _) ?_,rfl,q _ (I.hok.fresh (Nq _))⟩;exact⟨uq (Nv (pC xs lo hi) Z),_,(r.drop (HT.sIx xs.length 0 lo)).take (HT.sIx xs.length xs.length hi - HT.sIx xs.length 0 lo),Sz _ _⟩
def Kl(K:c_):R2:=λx y H Q=>∃a b ns ms,x= .ref a/\y= .ref b/\ot K H a (ns.map V.int)/\ot K H b (ms.map V.int)/\Q (.bl (HT.lexLt ns ms)) H
theorem ya(P:X.A.units<u3):jS X (kr .Lt) (Kl X.K):=by intro pins s σ H x y v u Q I Y W h;obtain⟨a,b,ns,ms,rfl,rfl,S,U,q⟩:=h;cases Y;cases W;obtain⟨its,N,T,_⟩:=I.tuple S;obtain⟨Z,L,p2,_⟩:=I.tuple U;have O:pb its.toArray.toList ns:=Ra N;have R:pb Z.toArray.toList ms:=Ra L;exact HT.lt_tupInts T p2 O R P ⟨.bl (HT.lexLt ns ms),H,I,rfl,q⟩
def Km(K:c_):R2:=λx y H Q=>∃a b xs ys,x= .ref a/\y= .ref b/\ot K H a xs/\ot K H b ys/\xs≠[]/\xs.length+ys.length<=sizeLine/\
 (ys=[]->Q (.ref a) H)/\(ys≠[]->∀p,H p=none->Q (.ref p) (upd H p (.tup (xs++ys))))
theorem bg.nil_iff{xs:List V}{us:List aC}(r:bg xs us):us=[]↔xs=[]:=by
 cases r with
 |nil=>simp
 |cons _ _=>simp
theorem Fo:jS X (u0 .Add) (Km X.K):=by intro pins s σ H x y v u Q I T S h;obtain⟨a,b,xs,ys,rfl,rfl,N,R,J,W,P,L⟩:=h;cases T;cases S;obtain⟨its,Y,O,_⟩:=I.tuple N;obtain⟨U,Z,p2,_⟩:=I.tuple R;refine HT.cat_tup O p2 (λz=>J (Y.nil_iff.mp z)) (λz=>⟨.ref a,H,I,rfl,P (Z.nil_iff.mp z)⟩) (λz=>?_) (by rw[<-Y.length, <-Z.length];exact W);refine⟨.ref s.heap.objs.size,_,I.laid (t':=s.toks) (o:=.tup (xs++ys)) (λb G q=>Nm _ q) (Nq _) ?_,rfl,L (λw=>z (Z.nil_iff.mpr w)) _ (I.hok.fresh (Nq _))⟩;exact⟨uq (by rw[Nn];exact W),_,Y.append Z,Sz _ _⟩
end
def xO(n:Nat)(i:Int):Option Nat:=if 0<=i then (if i<n then ar i.toNat else none)else if -(n:Int)<=i then ar (i+n).toNat else none
def jT{α:Type}(xs:List α)(i:Int):Option α:=(xO xs.length i).bind λj=>xs[j]?
theorem zG{n:Nat}{i:Int}{j:Nat}(h:xO n i=ar j):SD i n=ar j/\j<n/\ -(n:Int)<=i/\i<n:=by
 unfold xO at h;by_cases h0:0<=i
 ·rw[if_pos h0]at h;by_cases h1:i<n
  ·rw[if_pos h1]at h;have e:i.toNat=j:=NP h;exact⟨by rw[SN h0 h1,e],by omega,by omega,h1⟩
  ·rw[if_neg h1]at h;cases h
 ·rw[if_neg h0]at h;by_cases h1: -(n:Int)<=i
  ·rw[if_pos h1]at h;have e:(i+n).toNat=j:=NP h;exact⟨by rw[seqIndex_neg (by omega) h1,e],by omega,h1,by omega⟩
  ·rw[if_neg h1]at h;cases h
theorem uu{α:Type}{xs:List α}{i:Int}{v:α}(h:jT xs i=ar v):∃j,SD i xs.length=ar j/\xs[j]? =ar v/\j<xs.length/\ -(xs.length:Int)<=i/\i<xs.length:=by
 unfold jT at h;cases e:xO xs.length i with
 |none=>rw[e]at h;cases h
 |some j=>
  rw[e]at h;obtain⟨W,Z,X,Y⟩:=zG e;exact⟨j,W,h,Z,X,Y⟩
def uw(b:Expr):Prop:=∀o i,subscripted b dt o i=operate [o,i] (Sr o i)
def E1(X:Cx)(r:R2):Prop:=
 ∀(value slice:Expr) (pins:List (bc×Obj)) (s:b_) (σ:St) (H:Hp) (x y:V) (v u:aC) (Q:VK),Inv X pins σ H s->RelV x v->RelV y u->r x y H Q->
  subscripted slice dt v u=operate [v,u] (Sr v u)->ed (fb X.prog X.w) X.A (subscriptTail value slice v u) (EP X pins σ Q) X.xe s
def Kn(X:Cx)(id:String)(r:V->List V->Hp->VK->Prop):Prop:=
 ∀(pins:List (bc×Obj)) (s:b_) (σ:St) (H:Hp) (x:V) (xs:List V) (v:aC) (us:List aC) (Q:VK),Inv X pins σ H s->RelV x v->bg xs us->r x xs H Q->
  ed (fb X.prog X.w) X.A (call (.builtin id) (v::us)) (EP X pins σ Q) X.xe s
section
variable {X:Cx}{a b:Expr}{ta tb:TE}{pos:Pos}
theorem E1.or{r W:R2}(h:E1 X r)(h':E1 X W):E1 X (λx y H Q=>r x y H Q\/W x y H Q):=by
 intro value slice pins s σ H x y v u Q I Z Y q hs;rcases q with q|q
 ·exact h value slice pins s σ H x y v u Q I Z Y q hs
 ·exact h' value slice pins s σ H x y v u Q I Z Y q hs
theorem Ko{r:R2}(R:E1 X r)(T:PE X a ta)(W:PE X b tb)(hs:uw b):PE X (.Subscript a b pos) (JN r ta tb):=by intro pins s σ H Q I h;exact Subscript_ (HC T W I h λv u s2 x y U S Z Y q=>R a b pins s2 σ U x y v u Q S Z Y q (hs _ _))
def Kq(K:c_):R2:=λx y H Q=>∃p xs i v,x= .ref p/\y= .int i/\kS K H p xs/\jT xs i=ar v/\Q v H
def Kr(K:c_):R2:=λx y H Q=>∃p xs i v,x= .ref p/\y= .int i/\ot K H p xs/\jT xs i=ar v/\Q v H
def Ks:R2:=λx y H Q=>∃z i c,x= .str z/\y= .int i/\z.length<=sizeLine/\jT z.cps.toList i=ar c/\Q (.str ⟨#[c]⟩) H
theorem Fp:E1 X (Kq X.K):=by
 intro value slice pins s σ H x y v u Q I S O h hs;obtain⟨p,xs,i,z,rfl,rfl,N,he,q⟩:=h;cases S;obtain⟨t,rfl⟩:=O;obtain⟨its,r,U,G⟩:=I.list N;obtain⟨j,Z,J,F,R,L⟩:=uu he;obtain⟨w,T,W⟩:=r.get J;have P:=r.length;have E:=qJ;have fin:EP X pins σ Q w s:=⟨z,H,I,W,q⟩;by_cases h0:0<=i
 ·have Y:i.toNat=j:=by
   rw[SN h0 L]at Z;exact NP Z
  exact item_listR U.isList h0 (by omega) (by rw[Y];simpa using T) fin hs
 ·have Y:(i+(its.toArray.size:Int)).toNat=j:=by
   rw[seqIndex_neg (by omega) R]at Z;rw[NA, <-P];exact NP Z
  exact subscriptTail_builtinR (x:=w) U.isList.typeIs slot_list_getitem.lookup
   (wpAny_getItem_list_neg (Q:=λr s'=>r=w/\EP X pins σ Q r s') U.isList (by omega) (by rw[NA]<;>omega) (by omega) (by rw[Y];simpa using T) ⟨rfl,fin⟩) hs
theorem HN:E1 X (Kr X.K):=by
 intro value slice pins s σ H x y v u Q I W S h hs;obtain⟨p,xs,i,z,rfl,rfl,R,he,q⟩:=h;cases W;obtain⟨t,rfl⟩:=S;obtain⟨its,r,Y,N⟩:=I.tuple R;obtain⟨j,P,O,L,J,G⟩:=uu he;obtain⟨w,U,Z⟩:=r.get O;have T:=r.length;have F:=qJ;have fin:EP X pins σ Q w s:=⟨z,H,I,Z,q⟩;exact subscriptTail_builtinR (x:=w) Y.typeIs slot_tuple_getitem.lookup
  (getItem_tuple (j:=j) (Q:=λr s'=>r=w/\EP X pins σ Q r s') Y (by omega) (by omega) (by rw[NA, <-T];exact P) (by simpa using U) ⟨rfl,fin⟩) hs
theorem HP:E1 X Ks:=by
 intro value slice pins s σ H x y v u Q I Y W h hs;obtain⟨z,i,c,rfl,rfl,P,he,q⟩:=h;obtain⟨t,rfl⟩:=Y;obtain⟨t',rfl⟩:=W;obtain⟨j,Z,T,O,S,U⟩:=uu he;have R:z.cps.toList.length=z.length:=by simp[Str.length]
 rw[R]at Z S U;have N:=qJ;exact tail_any (typeIs_str s z t) slot_str_getitem.lookup (getItem_str (c:=c) (by have e1:decide (i< -(2 ^ 63:Int))=false:=N7 (by omega);have e2:decide (i ≥ 2 ^ 63)=false:=N7 (by omega);rw[e1,e2,Bool.or_false]) (by rw[Z];simpa using T) ⟨.str ⟨#[c]⟩,H,I.tok _,⟨_,rfl⟩,q⟩) hs
def MQ(K:c_):R2:=λx y H Q=>Kq K x y H Q\/Kr K x y H Q\/Ks x y H Q
theorem HQ:E1 X (MQ X.K):=Fp.or (HN.or HP)
theorem yb(its:List aC)(n j:Nat)(u:aC):n_ (·.setIfInBounds j u) {cls:=.type "list",data:=.seq its.toArray n}={cls:=.type "list",data:=.seq (its.set j u).toArray n}:=by simp[n_]
theorem Inv.lst{Z:List (bc×Obj)}{Y:St}{H:Hp}{s:b_}{p:bc}{xs:List V}(I:Inv X Z Y H s)(h:H p=ar (.lst xs)):
  ∃(its:List aC) (n:Nat),bg xs its/\s.heap.get? p=ar {cls:=.type "list",data:=.seq its.toArray n}/\xs.length<=sizeLine:=by
 obtain⟨z,its,n,r,e⟩:=I.hok p _ h;exact⟨its,n,r,e,z⟩
theorem Inv.lstUpd{Z:List (bc×Obj)}{U:St}{H:Hp}{s:b_}{p:bc}{xs ys:List V}{its its':List aC}{n Y:Nat}{f:Obj->Obj}(I:Inv X Z U H s)(h:H p=ar (.lst xs))
  (T:s.heap.get? p=ar {cls:=.type "list",data:=.seq its.toArray n}) (W:f {cls:=.type "list",data:=.seq its.toArray n}={cls:=.type "list",data:=.seq its'.toArray Y}) (r:bg ys its') (R:ys.length<=sizeLine) (t:Nat):
  Inv X Z U (upd H p (.lst ys)) {s with heap:=s.heap.update p f,toks:=t}:=by
 have e:(s.heap.update p f).get? p=ar {cls:=.type "list",data:=.seq its'.toArray Y}:=by rw[Ox f T (by rw[W]<;>rfl),W]
 refine I.write (x:=p) (e:=p) (by rw[h];trivial) (.inl rfl) (λb u S q=>(N9 _ _ (k_ S)).trans q) ⟨_,e⟩ ?_;exact⟨R,its',Y,r,e⟩
def GY:V->V->V->Hp->(Hp->Prop)->Prop:=λo i v H Q=>∃p xs k j,o= .ref p/\i= .int k/\H p=ar (.lst xs)/\xO xs.length k=ar j/\Q (upd H p (.lst (xs.set j v)))
theorem set_list:J7 X GY:=by
 intro pins s σ H o i v F E u Q I L J G h;obtain⟨p,xs,k,j,rfl,rfl,O,N,q⟩:=h;cases L;obtain⟨t,rfl⟩:=J;obtain⟨its,n,r,Y,K⟩:=I.lst O;obtain⟨Z,C,R,P⟩:=zG N;have T:=r.length;have B:=qJ;have S:Inv X pins σ (upd H p (.lst (xs.set j v))) {s with heap:=s.heap.update p (n_ (·.setIfInBounds j u))}:=
  I.lstUpd O Y (yb its n j u) (r.set G j) (by rw[Qd];exact K) s.toks
 by_cases h0:0<=k
 ·have U:k.toNat=j:=by
   rw[SN h0 P]at Z;exact NP Z
  exact W.ki_setAt Y h0 (by omega) (by rw[NA, <-T];exact P) (by rw[U];exact⟨_,S,q⟩)
 ·have U:(k+(its.toArray.size:Int)).toNat=j:=by
   rw[seqIndex_neg (by omega) R]at Z;rw[NA, <-T];exact NP Z
  exact W.ki_setBack Y (by omega) (by rw[NA, <-T];exact R) (by omega) (by rw[U];exact⟨_,S,q⟩)
theorem ux(Y Z:Option Int)(n:Nat):(y8 Y Z none n).1=((HT.sIx n 0 Y:Nat):Int)/\(y8 Y Z none n).2.1=((HT.sIx n n Z:Nat):Int)/\(y8 Y Z none n).2.2=1:=by
 refine⟨?_,?_,rfl⟩
 ·cases Y with
  |none=>simp[y8,HT.sIx]
  |some i=>
   simp only[y8,HT.sIx,Option.getD_none,show(1:Int)>0 by decide,if_true];by_cases h:i<0
   ·simp only[h,if_true]<;>omega
   ·simp only[h,if_false]<;>omega
 ·cases Z with
  |none=>simp[y8,HT.sIx]
  |some i=>
   simp only[y8,HT.sIx,Option.getD_none,show(1:Int)>0 by decide,if_true];by_cases h:i<0
   ·simp only[h,if_true]<;>omega
   ·simp only[h,if_false]<;>omega
theorem sM(its:List aC)(Z Y:Option Int):slicePick its.toArray Z Y none=((its.drop (HT.sIx its.length 0 Z)).take (HT.sIx its.length its.length Y - HT.sIx its.length 0 Z)).toArray:=by obtain⟨T,W,U⟩:=ux Z Y its.toArray.size;unfold slicePick;rw[T,W,U];simp only[sliceRange_one,pick_run,u']<;>rfl
def Mn(K:c_):V->Option Int->Option Int->Hp->VK->Prop:=λx lo hi H Q=>∃a xs,x= .ref a/\kS K H a xs/\∀p,H p=none->Q (.ref p) (upd H p (.lst (sL xs lo hi)))
theorem Fq:GX X (Mn X.K):=by intro pins s σ H x v O R lo Z P Q I W hs T pu h;obtain⟨a,xs,rfl,S,q⟩:=h;cases W;obtain⟨its,r,Y,U⟩:=I.list S;have hlen:=r.length;refine⟨"list",_,slot_list_getitem.lookup,Y.isList.typeIs,?_⟩;refine wpAny_getItem_list_slice Y.isList hs T pu .none (by simp) ?_ (by rw[NA]<;>omega);rw[sM, <-hlen];refine⟨.ref s.heap.objs.size,_,I.laid (t':=s.toks) (o:=.lst (sL xs lo Z)) (λb N q=>Nm _ q) (Nq _) ?_,rfl,q _ (I.hok.fresh (Nq _))⟩;exact⟨Nv (pC xs lo Z) U,_,0,(r.drop (HT.sIx xs.length 0 lo)).take (HT.sIx xs.length xs.length Z - HT.sIx xs.length 0 lo),Nw _ rfl⟩
theorem uy:d7 X (.builtin "len") (λxs H Q=>∃p ys,xs=[.ref p]/\(kS X.K H p ys\/ot X.K H p ys)/\Q (.int ys.length) H):=by
 intro pins s σ H xs us Q I r h;obtain⟨p,ys,rfl,Z,q⟩:=h;obtain⟨u,rfl,U⟩:=vals1 r;cases U;have S:=qJ;rcases Z with Z|Z
 ·obtain⟨its,W,Y,T⟩:=I.list Z;have hlen:=W.length;exact Calls.call_len_list Y.isList (by simp only[u']<;>omega) ⟨.int ys.length,H,I.tok _,⟨s.toks+1,by rw[NA,hlen]⟩,q⟩
 ·obtain⟨its,W,Y,T⟩:=I.tuple Z;have hlen:=W.length;exact len_tuple Y (by simp only[u']<;>omega) ⟨.int ys.length,H,I.tok _,⟨s.toks+1,by rw[NA,hlen]⟩,q⟩
theorem d7.or{f:aC}{r Z:List V->Hp->VK->Prop}(h:d7 X f r)(h':d7 X f Z):d7 X f (λxs H Q=>r xs H Q\/Z xs H Q):=by
 intro pins s σ H xs us Q I rs q;rcases q with q|q
 ·exact h pins s σ H xs us Q I rs q
 ·exact h' pins s σ H xs us Q I rs q
theorem sN:d7 X (.type "tuple") (λxs H Q=>∃p ys,xs=[.ref p]/\((kS X.K H p ys/\∀l,H l=none->Q (.ref l) (upd H l (.tup ys)))\/(ot X.K H p ys/\Q (.ref p) H))):=by
 intro pins s σ H xs us Q I r h;obtain⟨p,ys,rfl,h⟩:=h;obtain⟨u,rfl,T⟩:=vals1 r;cases T;rcases h with⟨hq,q⟩|⟨hq,q⟩
 ·obtain⟨its,Y,Z,U⟩:=I.list hq;have hlen:=Y.length;refine call_tuple_list Z.isList (λh' R=>?_) (by simp only[u']<;>omega);have W:Inv X pins σ H {s with heap:=h'}:=I.kept (t':=s.toks) R;have S:Inv X pins σ (upd H h'.objs.size (.tup ys)) {s with heap:=h'.push {cls:=.type "tuple",data:=.seq its.toArray}}:=
   W.laid (t':=s.toks) (λb o e=>Nm _ e) (Nq _) (show bB X.prog X.w _ _ _ (.tup ys)from⟨uq U,its,Y,Sz _ _⟩)
  exact⟨.ref h'.objs.size,_,S,rfl,q _ (W.hok.fresh (Nq _))⟩
 ·obtain⟨its,Y,Z,U⟩:=I.tuple hq;exact call_tuple_same Z ⟨.ref p,H,I,rfl,q⟩
def Mo(K:c_)(T:String)(x:V)(H:Hp):Prop:=match x with
 | .str _=>T="str"
 | .int _=>T="int"
 | .ref p=>(T="list"/\∃xs,kS K H p xs)\/(T="tuple"/\∃xs,H p=ar (.tup xs))\/
   (T="dict"/\((∃kvs,H p=ar (.dK kvs))\/∃kvs,H p=ar (.dT kvs)))\/(T="set"/\∃S n,H p=ar (.set S n))
 |_=>False
theorem CD{Z:List (bc×Obj)}{U:St}{H:Hp}{s:b_}{T:String}{x:V}{v:aC}(I:Inv X Z U H s)(r:RelV x v)(Y:Mo X.K T x H):
  s.TypeIs v T/\∀a,v= .ref a->∃ob,s.heap.get? a=ar ob/\ob.dict=none:=by
 cases x with
 |str z=>
  obtain⟨t,rfl⟩:=r;cases (show T="str" from Y);exact⟨typeIs_str s z t,λ_ e=>nomatch e⟩
 |int i=>
  obtain⟨t,rfl⟩:=r;cases (show T="int" from Y);exact⟨Td s i t,λ_ e=>nomatch e⟩
 | ref p=>
  cases r;rcases Y with⟨rfl,xs,hq⟩|⟨rfl,xs,hk⟩|⟨rfl,hk⟩|⟨rfl,S,n,hk⟩
  ·obtain⟨its,_,W,_⟩:=I.list hq;refine⟨W.isList.typeIs,λa e=>?_⟩;cases e;obtain⟨o,n,e,c,hd,_⟩:=W;exact⟨o,e,hd⟩
  ·obtain⟨⟨_,o,e,hd⟩,its,_,pt⟩:=(show bB X.prog X.w H s.heap p (.tup xs)from I.hok p _ hk);refine⟨pt.typeIs,λa e2=>?_⟩;cases e2;exact⟨o,e,hd⟩
  ·have z:∃o,s.heap.get? p=ar o/\o.ExactDict:=by
    rcases hk with⟨kvs,hk⟩|⟨kvs,hk⟩
    ·obtain⟨_,_,_,_,o,_,_,e,ex,_⟩:=I.hok p _ hk;exact⟨o,e,ex⟩
    ·obtain⟨_,_,_,_,o,_,_,e,ex,_⟩:=I.hok p _ hk;exact⟨o,e,ex⟩
   obtain⟨o,e,ex⟩:=z;refine⟨⟨o,e,ex.1⟩,λa e2=>?_⟩;cases e2;exact⟨o,e,ex.2.1⟩
  ·obtain⟨o,_,_,_,e,ex,_⟩:=I.hok p _ hk;refine⟨⟨o,e,ex.1⟩,λa e2=>?_⟩;cases e2;exact⟨o,e,ex.2.1⟩
 |_=>exact j_ Y
def M5(K:c_)(T:String)(r:V->List V->Hp->VK->Prop)(to:TE)(t:TA):TE:=λσ H Q=>to σ H λx H1=>Mo K T x H1/\t σ H1 λxs H2=>r x xs H2 Q
variable {o e:Expr}{es:List Expr}{to:TE}{t:TA}{name:Str}{apos cpos:Pos}{T id:String}{r:V->List V->Hp->VK->Prop}
theorem CF(F:PlainAttrs T)(U:Slot T name id)(R:typeOf (.builtin id)=a_ (.type "method_descriptor"))(G:Kn X id r)(O:PE X o to)(L:PA X (e::es) t)
  (Y:ra o name X.env (hO o X.env)=hO o X.env:=by rfl)
  (S:((wd cpos (dV (e::es) X.env)).all (λx=> !x.1) && (backToKw cpos (keywordEach [] X.env)).all (λx=>x.1.isSome)
   && decide ((e::es).length+([]:List SZ).length+(if ([]:List SZ).isEmpty then 0 else 1)<30))=true:=by rfl)
  (W:(apos.endLine==cpos.line)=true:=by rfl) (hs:dV (e::es) X.env=(dt,hO e X.env)::dV es X.env:=by rfl) (Z:(wd cpos (dV es X.env)).any (·.1)=false:=by rfl):
  PE X (.Call (.Attribute o name apos) (e::es) [] cpos) (M5 X.K T r to t):=by
 intro pins s σ H Q I h;refine wpAny_Call_method_late Y S W rfl (dJ (O pins s σ H _ I h) λv s1 ⟨x,H1,I1,r1,ty,q1⟩=>?_);obtain⟨N,J⟩:=CD I1 r1 ty;refine⟨T,id,F,U,R,N,J,?_⟩;have P:=L cpos pins s1 σ H1 _ I1 q1;rw[hs]at P⊢;refine Calls.callWith_builtin (by show(dt||(wd cpos (dV es X.env)).any (·.1))=dt;rw[Z]<;>rfl) (QH ?_);exact dJ P λus s2 ⟨vs,H2,I2,r2,q2⟩=>G pins s2 σ H2 x vs v us Q I2 r1 r2 q2
end
def MR(X:Cx)(id:String)(r:V->List V->Hp->VK->Prop):Prop:=
 ∀(pins:List (bc×Obj)) (s:b_) (σ:St) (H:Hp) (x:V) (xs:List V) (v:aC) (us:List aC) (Q:VK),Inv X pins σ H s->RelV x v->bg xs us->r x xs H Q->
  ed (fb X.prog X.w) X.A (call (.builtin id) (v::us)) (EP X pins σ Q) X.xe s
theorem bg.one:∀{x:V} {us:List aC},bg [x] us->∃u,us=[u]/\RelV x u
 |_,_,.cons r .nil=>⟨_,rfl,r⟩
theorem bg.eraseIdx:∀{xs:List V} {us:List aC} (i:Nat),bg xs us->bg (xs.eraseIdx i) (us.eraseIdx i)
 |_,_,_,.nil=>.nil
 |_,_,0,.cons _ t=>t
 |_,_,i+1,.cons r t=>.cons r (bg.eraseIdx i t)
theorem bg.rep{xs:List V}{us:List aC}(h:bg xs us):∀k:Nat,bg (ey k xs).flatten (ey k us).flatten
 |0=>.nil
 |k+1=>by
  rw[On,On,O3,O3];exact bg.append h (bg.rep h k)
theorem tJ{α:Type}:∀(l:List α) (i:Nat),(l.eraseIdx i).length<=l.length
 |[],_=>Nq _
 |_::_,0=>P3 _
 |_::r,i+1=>P0 (tJ r i)
theorem foldl_rep(its:List aC):∀(k:Nat) (acc:List aC),
  Te (λZ Y=>Z++Y) acc.toArray (ey k its.toArray)=(acc++(ey k its).flatten).toArray
 |0,acc=>by simp
 | k+1,acc=>by
  have e:acc.toArray++its.toArray=(acc++its).toArray:=by simp
  have e2:(acc++its)++(ey k its).flatten=acc++(ey (k+1) its).flatten:=by rw[On,O3,ND]
  rw[<-e2, <-foldl_rep its k (acc++its), <-e,On,List.foldl_cons]
section
variable {X:Cx}{pins:List (bc×Obj)}{σ:St}{H:Hp}{s:b_}{l b:bc}{xs ys zs:List V}
theorem Inv.lset{its its':List aC}{n:Nat}{f:Array aC->Array aC}{t':Nat}(I:Inv X pins σ H s)(S:H l=ar (.lst xs))
  (e:s.heap.get? l=ar {cls:=.type "list",data:=.seq its.toArray n}) (Y:f its.toArray=its'.toArray) (Z:bg ys its') (T:ys.length<=sizeLine):
  Inv X pins σ (upd H l (.lst ys)) {s with heap:=s.heap.update l (n_ f),toks:=t'}:=by
 have q:=PySem.IsL.update e f;rw[Y]at q;refine I.write (x:=l) (e:=l) (by rw[S];exact trivial) (.inl rfl) (λR u U W=>(N9 s.heap (n_ f) (k_ U)).trans W) ⟨_,q⟩ ?_;exact⟨T,its',_,Z,q⟩
theorem Inv.lnew{its:List aC}{t':Nat}(I:Inv X pins σ H s)(Y:bg ys its)(Z:ys.length<=sizeLine):
  Inv X pins σ (upd H s.heap.objs.size (.lst ys)) {s with heap:=s.heap.push {cls:=.type "list",data:=.seq its.toArray},toks:=t'}:=
 I.laid (λ_ _ q=>Nm _ q) (Nq _) ⟨Z,its,0,Y,Nw _ rfl⟩
theorem Inv.fresh(I:Inv X pins σ H s):H s.heap.objs.size=none:=I.hok.fresh (Nq _)
theorem Inv.lstM(I:Inv X pins σ H s)(Z:H l=ar (.lst xs)):xs.length<=sizeLine/\∃(its:List aC) (n:Nat),bg xs its/\xs.length=its.length/\s.heap.get? l=ar {cls:=.type "list",data:=.seq its.toArray n}:=by obtain⟨z,its,n,r,e⟩:=I.hok l _ Z;exact⟨z,its,n,r,r.length,e⟩
theorem vX{n:Nat}(h:n<=sizeLine):rb n=false:=by unfold rb;exact N7 (by omega)
end
section
variable {X:Cx}
def zH:V->List V->Hp->VK->Prop:=λx vs H Q=>∃l xs y,x= .ref l/\vs=[y]/\H l=ar (.lst xs)/\xs.length<sizeLine/\Q .non (upd H l (.lst (xs++[y])))
theorem lM:MR X "list.append" zH:=by intro pins s σ H x vs v us Q I U Y h;obtain⟨l,xs,y,rfl,rfl,Z,T,q⟩:=h;cases U;obtain⟨u,rfl,W⟩:=Y.one;obtain⟨z,its,n,r,S,e⟩:=I.lstM Z;refine QN F.slot_list_append ⟨_,e,rfl⟩ F.entry_list_append (F.args_list_append_2 _ _) (PySem.list_append l its.toArray n u (by rw[NA];omega)) ⟨e,?_⟩;refine⟨.non,_,I.lset (its':=its++[u]) Z e (by simp) (r.append (.cons W .nil)) ?_,rfl,q⟩;rw[Nn,Qz];omega
def CG:V->List V->Hp->VK->Prop:=λx vs H Q=>∃l xs i k y,x= .ref l/\vs=[.int i]/\H l=ar (.lst xs)/\ -(2 ^ 63)<=i/\i<2 ^ 63/\SD i xs.length=ar k/\xs[k]? =ar y/\Q y (upd H l (.lst (xs.eraseIdx k)))
theorem CH:MR X "list.pop" CG:=by
 intro pins s σ H x vs v us Q I T W h;obtain⟨l,xs,i,k,y,rfl,rfl,Y,S,R,P,O,q⟩:=h;cases T;obtain⟨u,rfl,U⟩:=W.one;obtain⟨t,rfl⟩:=U;obtain⟨z,its,n,r,N,e⟩:=I.lstM Y;obtain⟨w,hw,Z⟩:=r.get O;refine QN F.slot_list_pop ⟨_,e,rfl⟩ F.entry_list_pop (F.args_list_pop_2 _ _)
  (MeetsSeq.list_pop_at l its.toArray n i t k w (fitsIndex_both S R) (by rw[NA, <-N];exact P) (by rw[<-NW];exact hw) (by rw[NA];omega)) ⟨e,?_⟩
 refine⟨y,_,I.lset (its':=its.eraseIdx k) Y e ?_ (r.eraseIdx k) ?_,Z,q⟩
 ·show its.toArray.eraseIdxIfInBounds k=(its.eraseIdx k).toArray;rw[List.eraseIdxIfInBounds_toArray]
 ·have:=tJ xs k;omega
def Kt:R2:=λx y H Q=>∃l k xs,x= .ref l/\y= .int k/\H l=ar (.lst xs)/\ -(2 ^ 63)<=k/\k<2 ^ 63/\xs.length*k.toNat<=sizeLine/\
 ∀p,H p=none->Q (.ref p) (upd H p (.lst (ey k.toNat xs).flatten))
theorem len_rep{α:Type}(xs:List α)(k:Nat):(ey k xs).flatten.length=k*xs.length:=by
 induction k with
 |zero=>simp
 |succ k ih=>rw[On,O3,Nn,ih,PL,Nat.add_comm]
theorem HR:jS X (u0 .Mult) Kt:=by
 intro pins s σ H x y v u Q I N J h;obtain⟨l,k,xs,rfl,rfl,L,G,E,O,q⟩:=h;cases N;obtain⟨t,rfl⟩:=J;obtain⟨z,its,n,r,K,e⟩:=I.lstM L;have hlen:its.toArray.size*k.toNat<=sizeLine:=by rw[NA, <-K];exact O
 have Y:¬ its.toArray.size*k.toNat>(2 ^ 63 - 1) / 8:=by
  have:(sizeLine:Nat)<=(2 ^ 63 - 1) / 8:=by decide
  omega
 have W:¬ (!Builtin.List.listFitsIndex k)=true:=by rw[fitsIndex_both G E];exact OD
 have Z:¬ rb (its.toArray.size*k.toNat)=true:=by rw[vX hlen];exact OD
 have S:Te (λR P=>R++P) #[] (ey (if its.toArray.isEmpty=cn then 0 else k.toNat) its.toArray)=(ey k.toNat its).flatten.toArray:=by
  have f0:∀m:Nat,Te (λR P=>R++P) #[] (ey m its.toArray)=(ey m its).flatten.toArray:=λm=>by have:=foldl_rep its m [];rw[O5]at this;exact this
  rw[f0];cases its with
  |nil=>simp
  |cons a r'=>rw[if_neg (by simp)]
 refine wpAny_binaryOp_repeat_ref (T:="list") (U:="int") (by decide) ⟨_,e,rfl⟩ (λs'=>Td s' k t) noFill_list_mul F.fills_int_mul F.slot_int_rmul repeat_list F.slot_int_index.lookup
  (QN F.slot_int_rmul (Td s k t) F.entry_int_rmul (F.args_int_rmul_2 _ _) (int___rmul___int_list k t l its.toArray n)
   ⟨e,rfl,⟨_,e,rfl⟩,QN F.slot_list_mul ⟨_,e,rfl⟩ F.entry_list_mul (F.args_list_mul_2 _ _) (AutoListH.list___mul___list_int_3 l its.toArray n k t W Y Z) ⟨e,?_⟩⟩)
 rw[S];exact⟨.ref _,_,I.lnew (t':=s.toks) (r.rep k.toNat) (by rw[len_rep,Nat.mul_comm];exact O),rfl,q _ I.fresh⟩
end
section
variable {prog:eb}{w:eK}{A:gg}{E:aC->b_->Prop}{s:b_}
end
section
variable {X:Cx}
end
end L2
namespace Att
open PySem PySem.W PySem.Calls PyProof.Rows
theorem pQ{P:O'}{h:f'}:∀(ns:List Int) (vs:List aC),WellAll P h vs (ns.map WData.int)->pb vs ns:=by
 intro ns
 induction ns with
 |nil=>
  intro vs w;rw[Ov]at w;cases w;exact .nil
 | cons n ns ih=>
  intro vs w;rw[NH]at w;cases w with
  |cons a b=>
   cases a;exact .cons _ _ (ih _ b)
theorem A4{l:Ub}{n:Nat}(O:l.most=ar n){P:O'}{h:f'}{args:List WData}{Y:List aC}
  (Z:l.row.toRowW.claim.pre args=cn) (U:WellAll P h Y args):
  ∃a vs ns,Y=[ee a]/\args=[WData.list (ns.map WData.int)]/\h.get? a=ar {cls:=.type "list",data:=.seq vs.toArray}/\pb vs ns/\ns.length<=n:=by
 have jo:WShape.hasAll [] args [.list .int]=true:=(pre_splitW Z).1;have T:l.pre.holds [] {args:=args}=true:=(pre_splitW Z).2;obtain⟨d,r,rfl,S,Q⟩:=hasAllW_cons jo;obtain rfl:=hasAllW_nil Q;obtain⟨xs,rfl,R⟩:=hasW_list S;obtain⟨ns,rfl⟩:=items_int R;have hlen:ns.length<=n:=by
  unfold OpenLaw.pre at T;have W:(WTm.not (.lt (.lit (.int (n:Int))) (.len (.arg 0)))).holds [] {args:=[.list (ns.map .int)]}=true:=by have W:=(holds_andW T).1;rw[O]at W;exact W
  have X:=condW_of W (w_not (w_lt w_lit (w_len_list (w_arg rfl))));rw[Nl]at X;refine Rw λq=>?_;have N:(n:Int)<((ns.length:Nat):Int):=by omega
  first
   |(rw[NI N]at X;exact absurd X (by decide))
   |(simp at X;omega)
 cases U with
 |cons w1 w2=>
  cases w2;cases w1 with
  |list ho hall=>exact⟨_,_,ns,rfl,rfl,ho,pQ ns _ hall,hlen⟩
theorem A5(l:Ub)(args:List WData):l.row.toRowW.claim.post args (.bool cn) args=true:=
 postW_of (r:=l.row.toRowW) (X:=(cn==cn))
  (show WShape.has [] (.bool cn) .bool=cn by first|rfl|decide|simp[WShape.has,WShape.arms,WShape.armsAll])
  (show(WTm.eq .res (.lit (.bool cn))).value [] {args:=args,res:=ar (.bool cn),after:=args}=ar (.bool (cn==cn))from w_eq_bool (w_res rfl) w_lit) rfl
theorem attach_call{l:Ub}{n:Nat}{q:eb}{loose:List Str}{XP:(Str->Option aC)->f'->Prop}{YP:eK->f'->Prop}{d:T5}
  (y:l.most=ar n) (O:d.params.defaults=[])
  (W:∀(w:eK) (s₀ Z:b_) (S P:Str->Option aC) (T:bc) (o:Obj) (pm cd doc:aC) (a:bc) (vs:List aC) (ns:List Int),
   Ground q loose [] XP w s₀ S P Z.heap->YP w Z.heap->
   Z.heap.get? T=ar o->o.data= .func (docDef d.name d.params d.body d.scope pm cd doc)->Z.heap.CodeRec cd d.name->S d.name=ar (.ref T)->
   Z.heap.get? a=ar {cls:=.type "list",data:=.seq vs.toArray}->pb vs ns->ns.length<=n->Z.gens= #[]->
   t_ (fb l.prog w) z4 (.call (.ref T) ⟨[.ref a],[]⟩) (λr s'=>r= .ok (.ret (.bool cn))/\OldK Z.heap s'.heap/\s'.os=Z.os/\B' s'.gens) Z):
  WalkO q loose XP YP l.row.toRowW d [] (λf vs=>PySem.call f vs):=by
 intro w s₀ Z S P G Y T o pm cd doc C kV I hd Q K R A args vals as U L J N F;obtain rfl:C= .none:=Dflts.none K O;obtain rfl:kV= .none:=Dflts.noKw K;obtain⟨a,vs,ns,rfl,rfl,X,hints,hlen⟩:=A4 y U N;refine enter_call (PK (W w s₀ Z S P T o pm cd doc a vs ns G Y I (fd_plain hd) Q R X hints hlen A) λr s' B=>?_);obtain⟨rfl,z,H,E⟩:=B;exact⟨.inl ⟨.bool cn,.bool cn,[],rfl,λ_=>rfl,.bool cn,A5 l _,λ_=>⟨List.Pairwise.nil,λ_ hm=>(nomatch hm)⟩⟩,z,H,E⟩
section
variable {prog:eb}{w:eK}{A:gg}{E:aC->b_->Prop}{s:b_}{K:Uk}
def ledger(h:f')(L d:bc):List (bc×Obj):=(d_ h.objs.size).filterMap λa=>if a=L\/a=d then none else (h.get? a).map λo=>(a,o)
end
end Att
namespace L2
open PySem PySem.Spec PyProof.Rows
theorem lN:∀{vs:List aC} {ns:List Int},pb vs ns->bg (ns.map V.int) vs
 |_,_,.nil=>.nil
 |_,_,.cons n t h=>.cons ⟨t,rfl⟩ (lN h)
def HS(H:Hp):Prop:=∀b,H b=none\/∃o xs,H b=ar (.frz o (.lst xs))
theorem CI{P:eb}{w:eK}{K:c_}{N B:Str->Option aC}{CX:Cd}{k:Nat}{p a:bc}{f:fg}{x:Str}{sp:Sp}{Z:b_}{vs:List aC}{ns:List Int}
  (KX:K.In Z.heap) (Q:Z.heap.Ns gd N) (X:Z.heap.Ns y4 B) (C:∀x:Str,x≠"__name__"->B x=lz x) (S:Z.heap.NoLimit) (hg:Z.gens= #[])
  (G:Z.heap.get? a=ar {cls:=.type "list",data:=.seq vs.toArray}) (c:pb vs ns) (l:ns.length<=sizeLine) (hr:Room k z4)
  (F:∀base:f',K.In base->base.Ns gd N->FnOk P w K N base CX k p f [x] sp) (T:∀(s:b_) (u:aC),N_ s f ⟨[u],[]⟩ [(x,u)])
  (A:∀H:Hp,HS H->kS K H a (ns.map V.int)->sp [.ref a] H (λv _=>v= .bl cn) λ_ _ _=>False)
  (y:∀H e s',CX [] H Z (λ_ _ _=>False) e s'->False):
  t_ (fb P w) z4 (.call (.ref p) ⟨[.ref a],[]⟩) (λr s'=>r= .ok (.ret (.bool cn))/\OldK Z.heap s'.heap/\s'.os=Z.os/\B' s'.gens) Z:=by
 have j:=lN c;have I:=c.length;have core:∀H:Hp,HS H->kS K H a (ns.map V.int)->iG P w H Z.heap->(∀b,H b≠none->b=a)->(H a≠none->K.lookup a=none)->
   t_ (fb P w) z4 (.call (.ref p) ⟨[.ref a],[]⟩) (λr s'=>r= .ok (.ret (.bool cn))/\OldK Z.heap s'.heap/\s'.os=Z.os/\B' s'.gens) Z:=by
  intro H i hS O g hK;have Y:∀{b:bc} {o:Obj},Z.heap.get? b=ar o->H b=none->(mq Z.heap H).get? b=ar o:=λe n=>nu e n;have E:∀{b:bc} {o:Obj} {es:Array DictEntry} {ep:Nat},Z.heap.get? b=ar o->o.data= .dict es ep->H b=none:=λ{b o es ep} e d=>by
   cases q:H b with
   |none=>rfl
   |some u=>
    have t:b=a:=g b (by rw[q];simp);subst t;rw[G]at e;cases e;have d':Data.seq vs.toArray _=Data.dict es ep:=d;cases d'
  have U:∀{b:bc} {m:Str->Option aC},Z.heap.Ns b m->(mq Z.heap H).Ns b m:=λ{b m} ⟨o,es,ep,e,d,r⟩=>⟨o,es,ep,Y e (E e d),d,r⟩;have L:K.In (mq Z.heap H):=λb o e=>Y (KX b o e) (by
   cases q:H b with
   |none=>rfl
   |some u=>
    have t:b=a:=g b (by rw[q];simp);subst t;rw[hK (by rw[q];simp)]at e;cases e)
  have hM:Mod K N (mq Z.heap H):=⟨L,U Q,⟨B,U X,C⟩,let ⟨mc,h1,h2⟩:=S;⟨mc,U h1,h2⟩⟩;have e0:aF P w K N (mq Z.heap H) z4 [] Z H:=⟨rfl,hM,λb o e=>ur e,P8 (oq _ _),trivial,λb X=>absurd (show b∈([]:List bc)from X) (by simp),O,.of_eq hg⟩;refine PK ((F _ L (U Q)).run z4 [] Z H ⟨[.ref a],[]⟩ [.ref a] [.ref a] _ _ hr e0 (T Z (.ref a)) (.cons rfl .nil) (A H i hS)) λr s' h=>?_;cases r with
  |error e=>exact(y H e s' h).elim
  | ok fl=>
   cases fl with
   |next=>exact j_ h
   |brk=>exact j_ h
   |cont=>exact j_ h
   | ret u=>
    obtain⟨v,H',os,bare,un,R,r',q⟩:=h;have q':v= .bl true:=q;subst q';obtain rfl:u=v_ true:=r';refine⟨rfl,OldK.of_keep λb o e=>?_,os,bare⟩;cases q:H b with
    |none=>exact un.keep b o e q (by intro z;exact absurd (show b∈([]:List bc)from z) (by simp)) (by simp)
    | some u=>
     rcases i b with z|⟨ob,xs,z⟩
     ·rw[q]at z;cases z
     ·have z2:=un.frzs b ob _ z;obtain⟨e1,_⟩:=O b _ z;obtain⟨e2,_⟩:=R b _ z2;rw[e]at e1;cases e1;exact e2
 cases hk:K.lookup a with
 |some o=>
  have e:=KX a o hk;rw[G]at e;cases e;refine core (λ_=>none) (λ_=>.inl rfl) (.inr ⟨_,vs.toArray,_,hk,rfl,rfl,rfl,by rw[NA,I];exact l,by simpa using j⟩) (λb u z=>by have J:(none:Option HO)=ar u:=z;cases J) (λb z=>absurd rfl z) λz=>absurd rfl z
 | none=>
  refine core (λb=>if b=a then ar (.frz {cls:=.type "list",data:=.seq vs.toArray} (.lst (ns.map V.int)))else none) (λb=>?_) (.inl (.inr ⟨{cls:=.type "list",data:=.seq vs.toArray},if_pos rfl⟩)) (λb u z=>?_) (λb z=>?_) λ_=>hk
  ·by_cases X:b=a
   ·exact .inr ⟨_,_,if_pos X⟩
   ·exact .inl (if_neg X)
  ·by_cases X:b=a
   ·have J:=(if_pos X).symm.trans z;cases J;subst X;exact⟨G,by rw[Nl];exact l,vs,_,j,G⟩
   ·have J:=(if_neg X).symm.trans z;cases J
  ·by_cases X:b=a
   ·exact X
   ·exact absurd (if_neg X) z
abbrev Nj{K:c_}{h:f'}(_:K.In h):W.Frag:=K
theorem LB{l:Tv}{n k:Nat}{q:eb}{loose:List Str}{XP:(Str->Option aC)->f'->Prop}{YP:eK->f'->Prop}{d:T5}{K:O'->c_}{J:eK->Cd}{sp:eK->Sp}{x:Str}
  (r:l.most=ar n) (Q:n<=sizeLine) (O:d.params.defaults=[]) (B:Room k z4)
  (I:∀(w:eK) (h:f'),YP w h->(K w.params).In h)
  (F:∀(w:eK) (Z:Str->Option aC) (S:bc) (h:f'),(K w.params).In h->h.Ns gd Z->Z d.name=ar (.ref S)->
   ∃fd:fg,(∀(s:b_) (u:aC),N_ s fd ⟨[u],[]⟩ [(x,u)])/\
    ∀base:f',(K w.params).In base->base.Ns gd Z->FnOk l.prog w (K w.params) Z base (J w) k S fd [x] (sp w))
  (P:∀(w:eK) (H:Hp) (a:bc) (ns:List Int),ns.length<=n->HS H->kS (K w.params) H a (ns.map V.int)->sp w [.ref a] H (λv _=>v= .bl cn) λ_ _ _=>False)
  (N:∀(w:eK) (H:Hp) (s:b_) (e:aC) (s':b_),J w [] H s (λ_ _ _=>False) e s'->False):
  Uc q loose XP YP l.row.toRowW d [] (λf vs=>PySem.call f vs):=by
 refine Att.attach_call r O λw s₀ U Z m S o pm cd doc a vs ns G Y p hd C R X hints hlen y=>?_;have L:=I w _ Y;obtain⟨fd,E,A⟩:=F w Z S _ L G.T.g R;exact CI L G.T.g G.T.b G.T.builtins G.T.nolimit y X hints (Nv hlen Q) B A E (λH z t=>P w H a ns hlen z t) λH e s'=>N w H U e s'
def gO(s:p_):Arguments:=match s with
 | .FunctionDef _ a _ _ _ _ _ _ _ _=>a
 |_=>{posonlyargs:=[],args:=[],vararg:=none,kwonlyargs:=[],kw_defaults:=[],kwarg:=none,defaults:=[]}
def dz(s:p_):List Stmt:=match s with
 | .FunctionDef _ _ b _ _ _ _ _ _ _=>b
 |_=>[]
def av(s:p_):Scope:=match s with
 | .FunctionDef _ _ _ _ _ _ sc _ _ _=>sc
 |_=>{kind:=.function,names:=[],isGenerator:=dt,isCoroutine:=dt}
abbrev M6:Cd:=λ_ _ _ _ _ _=>False
abbrev E0:XK:=λ_ _ _=>False
structure Fun(K:c_)(x qual:Str)(st:p_)(f:bc)(fd:fg):Prop where
 ex:∃(oc:aC) (od:Option bc) (kV doc pm:aC) (an:Option bc) (cdv ct:aC) (osl:Array (Option aC)),
  fd=A_ x qual (gO st) (dz st) (av st) .none kV doc pm an cdv ct/\K.lookup f=ar ⟨oc,od,.func fd,osl⟩/\R1 K cdv qual=cn
 kp:z3 K (.ref f)=cn
section
variable {P:eb}{w:eK}{K:c_}{mg:Str->Option aC}{base:f'}
theorem Fun.binds{x qual:Str}{Y:p_}{f:bc}{U:fg}{X:List Str}(F:Fun K x qual Y f U)
  (h:∀(kV doc pm:aC) (an:Option bc) (Z ct:aC) (us:List aC),us.length=X.length->Ta (A_ x qual (gO Y) (dz Y) (av Y) .none kV doc pm an Z ct) ⟨us,[]⟩=a_ (X.zip us)):Binds K U X []:=by
 obtain⟨Q,od,kV,doc,pm,an,Z,ct,S,rfl,R,T⟩:=F.ex;exact .all (h kV doc pm an Z ct)
theorem HU{x qual:Str}{X:p_}{f:bc}{R:aC}{od T:Option bc}{U:Array (Option aC)}{kV Y S Z ct:aC}(l:K.lookup f=ar ⟨R,od,.func (A_ x qual (gO X) (dz X) (av X) .none kV Y S T Z ct),U⟩)
  (c:R1 K Z qual=cn) (k:z3 K (.ref f)=cn):Fun K x qual X f (A_ x qual (gO X) (dz X) (av X) .none kV Y S T Z ct):=⟨⟨R,od,kV,Y,S,T,Z,ct,U,rfl,l,c⟩,k⟩
end
section
variable {X:Cx}
end
end L2
end
namespace S3
open PySem PySem.W PyProof.Rows
def bo{α:Type}(b:Nat->Nat->Bool):T6 α->α
 | .ret a=>a
 | .ask i j k=>bo b (k (b i j))
theorem iY{α β:Type}(b:Nat->Nat->Bool)(f:α->T6 β):∀t:T6 α,bo b (t.bind f)=bo b (f (bo b t))
 | .ret _=>rfl
 | .ask i j k=>iY b f (k (b i j))
section
variable (r:Nat->Nat)
abbrev eU:Nat->Nat->Bool:=λi j=>decide (r i<r j)
def ka(p:Array Nat)(k:Nat):Nat:=r (p.getD k 0)
def CJ(p:Array Nat)(n:Nat):Prop:=∀i j,i<=j->j<n->ka r p i<=ka r p j
def Mp(p:Array Nat)(n:Nat):Prop:=∀i j,i<=j->j<n->ka r p j<=ka r p i
variable {r}
theorem nz{p q:Array Nat}{i j:Nat}(h:p[i]? =q[j]?):p.getD i 0=q.getD j 0:=by rw[N8,N8,h]
theorem uz{p:Array Nat}{i j:Nat}(Z:j<=p.size)(k:Nat):ka r (w6 p i j) k=if i<=k/\k<j then ka r p (i+j - 1 - k)else ka r p k:=by
 have h:=getElem?_mirror_all (i:=i) Z k;unfold ka w6;by_cases c:i<=k/\k<j
 ·rw[if_pos c]at h⊢;rw[nz h]
 ·rw[if_neg c]at h⊢;rw[nz h]
theorem tK{p:Array Nat}{Z d:Nat}(hs:Z<p.size)(Y:d<=Z)(k:Nat):ka r (T7 p Z d) k=if k=Z - d then ka r p Z else if Z - d<k/\k<=Z then ka r p (k - 1)else ka r p k:=by
 have h:=getElem?_bubble hs d Y k;unfold ka;by_cases c:k=Z - d
 ·rw[if_pos c]at h⊢;rw[nz h]
 ·rw[if_neg c]at h⊢;by_cases c2:Z - d<k/\k<=Z
  ·rw[if_pos c2]at h⊢;rw[nz h]
  ·rw[if_neg c2]at h⊢;rw[nz h]
theorem qO:(w6 p i j).size=p.size:=mirror_size _ _ _ _
theorem fT:(w6 p i j).Perm p:=mirror_perm _ _ _ _
theorem uA:∀(f n:Nat),1<=n->CJ r p n->n<=bo (eU r) (vr p f n)/\bo (eU r) (vr p f n)<=n+f/\CJ r p (bo (eU r) (vr p f n))
 |0,n,h1,h=>⟨Nq _,Nq _,h⟩
 | f +1,n,h1,h=>by
  show n<=bo (eU r) (if (eU r) (p.getD n 0) (p.getD (n - 1) 0)=cn then Ss n else vr p f (n+1))/\bo (eU r) (if (eU r) (p.getD n 0) (p.getD (n - 1) 0)=cn then Ss n else vr p f (n+1))<=n+(f+1)/\CJ r p (bo (eU r) (if (eU r) (p.getD n 0) (p.getD (n - 1) 0)=cn then Ss n else vr p f (n+1)));by_cases c:(eU r) (p.getD n 0) (p.getD (n - 1) 0)=cn
  ·rw[if_pos c];exact⟨Nq _,by show n<=n+(f+1);omega,h⟩
  ·rw[if_neg c];have Y:ka r p (n - 1)<=ka r p n:=by
    exact Rw λz=>c (NI z)
   obtain⟨a1,a2,X⟩:=uA f (n+1) (by omega) (λi j Z W=>by
    by_cases e:j=n
    ·subst e;by_cases e2:i=j
     ·subst e2;exact Nq _
     ·exact Nv (h i (j - 1) (by omega) (by omega)) Y
    ·exact h i j Z (by omega))
   exact⟨by omega,by omega,X⟩
structure Down(r:Nat->Nat)(p:Array Nat)(n q:Nat):Prop where
 dsc:Mp r p n
 q1:q+1<=n
 eqs:∀k,n - (q+1)<=k->k<n->ka r p k=ka r p (n - 1)
theorem qP{p:Array Nat}(Z:n<=p.size)(h:Down r p n q):∀k,ka r (w6 p (n - (q+1)) n) k=ka r p k:=λk=>by
 rw[uz Z];split
 ·next c=>rw[h.eqs k c.1 c.2,h.eqs _ (by omega) (by omega)]
 ·rfl
theorem nA:∀(f:Nat) (p:Array Nat) (n q:Nat),n+f<=p.size->Down r p n q->
  Down r (bo (eU r) (wh f p n q)).1 (bo (eU r) (wh f p n q)).2.1 (bo (eU r) (wh f p n q)).2.2/\(bo (eU r) (wh f p n q)).1.Perm p/\n<=(bo (eU r) (wh f p n q)).2.1/\(bo (eU r) (wh f p n q)).2.1<=n+f
 |0,p,n,q,hs,h=>⟨h,Qe _,Nq _,Nq _⟩
 | f +1,p,n,q,hs,h=>by
  have e:bo (eU r) (wh (f+1) p n q)=if ka r p n<ka r p (n - 1)then (if q>0 then bo (eU r) (wh f (w6 p (n - (q+1)) n) (n+1) 0)else bo (eU r) (wh f p (n+1) 0))
    else if ka r p (n - 1)<ka r p n then (p,n,q)else bo (eU r) (wh f p (n+1) (q+1)):=by
   show bo (eU r) (if (eU r) (p.getD n 0) (p.getD (n - 1) 0)=cn then _ else _)=_;unfold ka;by_cases c:r (p.getD n 0)<r (p.getD (n - 1) 0)
   ·rw[if_pos (by simpa using c),if_pos c];split<;>rfl
   ·rw[if_neg (by simpa using c),if_neg c];show bo (eU r) (if (eU r) (p.getD (n - 1) 0) (p.getD n 0)=cn then _ else _)=_;by_cases c2:r (p.getD (n - 1) 0)<r (p.getD n 0)
    ·rw[if_pos (by simpa using c2),if_pos c2];rfl
    ·rw[if_neg (by simpa using c2),if_neg c2]
  have T:=h.q1;have ext:∀{p':Array Nat} {q':Nat},(∀k,ka r p' k=ka r p k)->ka r p n<=ka r p (n - 1)->(q'=0\/(q'=q+1/\ka r p n=ka r p (n - 1)))->Down r p' (n+1) q':=λ{p' q'} hk hle hq=>by
   refine⟨λi j Z W=>?_,by omega,λk S U=>?_⟩
   ·rw[hk,hk];by_cases ej:j=n
    ·subst ej;by_cases e2:i=j
     ·subst e2;exact Nq _
     ·exact Nv hle (h.dsc i (j - 1) (by omega) (by omega))
    ·exact h.dsc i j Z (by omega)
   ·rw[hk,hk,show n+1 - 1=n by omega];rcases hq with rfl|⟨rfl,he⟩
    ·have:k=n:=by omega
     subst this;rfl
    ·by_cases ek:k=n
     ·subst ek;rfl
     ·rw[he];exact h.eqs k (by omega) (by omega)
  rw[e];by_cases c:ka r p n<ka r p (n - 1)
  ·rw[if_pos c];by_cases hq:q>0
   ·rw[if_pos hq];obtain⟨a1,a2,X,Y⟩:=nA f (w6 p (n - (q+1)) n) (n+1) 0 (by rw[qO];omega) (ext (qP (by omega) h) (by omega) (.inl rfl));exact⟨a1,a2.trans fT,by omega,by omega⟩
   ·rw[if_neg hq];obtain⟨a1,a2,X,Y⟩:=nA f p (n+1) 0 (by omega) (ext (λ_=>rfl) (by omega) (.inl rfl));exact⟨a1,a2,by omega,by omega⟩
  ·rw[if_neg c];by_cases c2:ka r p (n - 1)<ka r p n
   ·rw[if_pos c2];exact⟨h,Qe _,Nq _,by show n<=n+(f+1);omega⟩
   ·rw[if_neg c2];obtain⟨a1,a2,X,Y⟩:=nA f p (n+1) (q+1) (by omega) (ext (λ_=>rfl) (by omega) (.inr ⟨rfl,by omega⟩));exact⟨a1,a2,by omega,by omega⟩
structure Got(r:Nat->Nat)(nrem:Nat)(p:Array Nat)(g:Nat×Array Nat):Prop where
 asc:CJ r g.2 g.1
 le:g.1<=nrem
 pos:1<=g.1
 perm:g.2.Perm p
theorem tL{p:Array Nat}(X:1<=n)(T:n<=nrem)(hs:nrem<=p.size)(h:Mp r p n):Got r nrem p (bo (eU r) (Tw n nrem p)):=by
 unfold Tw;rw[iY];have W:CJ r (w6 p 0 n) n:=λi j Z U=>by rw[uz (by omega),uz (by omega),if_pos ⟨by omega,by omega⟩,if_pos ⟨by omega,by omega⟩];exact h _ _ (by omega) (by omega)
 obtain⟨a1,a2,Y⟩:=uA (p:=w6 p 0 n) (nrem - n) n X W;exact⟨Y,by show bo (eU r) (vr (w6 p 0 n) (nrem - n) n)<=nrem;omega,by show 1<=bo (eU r) (vr (w6 p 0 n) (nrem - n) n);omega,fT⟩
theorem nB{p:Array Nat}(Q:n<nrem)(hs:nrem<=p.size)(h:Down r p (n+1) 0):Got r nrem p (bo (eU r) (Su n nrem p)):=by
 unfold Su;rw[iY];obtain⟨a1,a2,S,T⟩:=nA (nrem - (n+1)) p (n+1) 0 (by omega) h;generalize bo (eU r) (wh (nrem - (n+1)) p (n+1) 0)=d at a1 a2 S T;obtain⟨W,Z,X⟩:=d;dsimp only at a1 a2 S T;have Y:W.size=p.size:=a2.size_eq;by_cases hq:X>0
 ·show Got r nrem p (bo (eU r) (if X>0 then _ else _));rw[if_pos hq];have hd:Mp r (w6 W (Z - (X+1)) Z) Z:=λi j U R=>by
   rw[qP (show Z<=W.size by omega) a1,qP (show Z<=W.size by omega) a1];exact a1.dsc i j U R
  have:=tL (n:=Z) (nrem:=nrem) (by omega) (by omega) (by rw[qO,Y];exact hs) hd;exact⟨this.asc,this.le,this.pos,(this.perm.trans fT).trans a2⟩
 ·show Got r nrem p (bo (eU r) (if X>0 then _ else _));rw[if_neg hq];have:=tL (n:=Z) (nrem:=nrem) (by omega) (by omega) (by rw[Y];exact hs) a1.dsc;exact⟨this.asc,this.le,this.pos,this.perm.trans a2⟩
theorem A6{p:Array Nat}(N:2<=nrem)(hs:nrem<=p.size):Got r nrem p (bo (eU r) (SF nrem p)):=by
 unfold SF;rw[iY];obtain⟨a1,a2,Y⟩:=uA (r:=r) (p:=p) (nrem - 1) 1 (Nq _) (λi j X U=>by
  have:i=j:=by omega
  subst this;exact Nq _)
 have stop:∀(f n:Nat),1<=n->bo (eU r) (vr p f n)<n+f->ka r p (bo (eU r) (vr p f n))<ka r p (bo (eU r) (vr p f n) - 1):=by
  intro f
  induction f with
  |zero=>intro n _ h;exact absurd h (O0 _)
  | succ f ih=>
   intro n W h;have e:bo (eU r) (vr p (f+1) n)=if ka r p n<ka r p (n - 1)then n else bo (eU r) (vr p f (n+1)):=by
    show bo (eU r) (if (eU r) (p.getD n 0) (p.getD (n - 1) 0)=cn then _ else _)=_;unfold ka;by_cases c:r (p.getD n 0)<r (p.getD (n - 1) 0)
    ·rw[if_pos (NI c),if_pos c];rfl
    ·rw[if_neg (λz=>c (Om z)),if_neg c]
   rw[e]at h⊢;by_cases c:ka r p n<ka r p (n - 1)
   ·rw[if_pos c];exact c
   ·rw[if_neg c]at h⊢;exact ih (n+1) (by omega) (by omega)
 have Z:=stop (nrem - 1) 1 (Nq _);generalize bo (eU r) (vr p (nrem - 1) 1)=n at a1 a2 Y Z;by_cases hn:n=nrem
 ·show Got r nrem p (bo (eU r) (if (n==nrem)=cn then _ else _));rw[if_pos (by simp[hn])];exact⟨Y,by show n<=nrem;omega,a1,Qe _⟩
 ·show Got r nrem p (bo (eU r) (if (n==nrem)=cn then _ else _));rw[if_neg (by simp[hn])];have Q:=Z (by omega);by_cases W:n>1
  ·rw [if_pos W];show Got r nrem p (bo (eU r) (if (eU r) (p.getD 0 0) (p.getD (n - 1) 0)=cn then _ else _));by_cases c:r (p.getD 0 0)<r (p.getD (n - 1) 0)
   ·rw[if_pos (NI c)];exact⟨Y,by show n<=nrem;omega,a1,Qe _⟩
   ·rw [if_neg (λz=>c (Om z))];have all:∀k,k<n->ka r p k=ka r p (n - 1):=λk P=>by
     have S:=Y 0 k (by omega) P;have R:=Y k (n - 1) (by omega) (by omega);have O:ka r p (n - 1)<=ka r p 0:=Rw c;omega
    have T:∀k,ka r (w6 p 0 n) k=ka r p k:=λk=>by
     rw[uz (by omega)];split
     ·next h=>rw[all k h.2,all _ (by omega)]
     ·rfl
    have:=nB (r:=r) (n:=n) (nrem:=nrem) (p:=w6 p 0 n) (by omega) (by rw[qO];exact hs) ⟨λi j X U=>by
      rw[T,T];by_cases ej:j=n
      ·subst ej;by_cases ei:i=j
       ·subst ei;exact Nq _
       ·rw[all i (by omega)];omega
      ·rw[all i (by omega),all j (by omega)];exact Nq _,by omega,λk S R=>by rw[show k=n+1 - 1 by omega]⟩
    exact⟨this.asc,this.le,this.pos,this.perm.trans fT⟩
  ·rw [if_neg W];have e1:n=1:=by omega
   subst e1;exact nB (by omega) hs ⟨λi j X U=>by
     by_cases ej:j=1
     ·subst ej;by_cases ei:i=1
      ·subst ei;exact Nq _
      ·rw[show i=1 - 1 by omega];omega
     ·rw[show i=j by omega];exact Nq _,by omega,λk S R=>by rw[show k=1+1 - 1 by omega]⟩
theorem oy(Z:CJ r p k):∀(f l m:Nat),m - l<=f->l<=m->m<=k->(∀i,i<l->ka r p i<=ka r p k)->(∀i,m<=i->i<k->ka r p k<=ka r p i)->
  bo (eU r) (u5 p k f l m)<=k/\(∀i,i<bo (eU r) (u5 p k f l m)->ka r p i<=ka r p k)/\∀i,bo (eU r) (u5 p k f l m)<=i->i<k->ka r p k<=ka r p i
 |0,l,m,hf,hl,hm,h1,h2=>by
  have:l=m:=by omega
  subst this;exact⟨by show l<=k;omega,h1,h2⟩
 | f+1,l,m,hf,hl,hm,h1,h2=>by
  by_cases c:l ≥ m
  ·have e:bo (eU r) (u5 p k (f+1) l m)=l:=by
    show bo (eU r) (if l ≥ m then _ else _)=l;rw[if_pos c];rfl
   rw[e];have:l=m:=by omega
   subst this;exact⟨by omega,h1,h2⟩
  ·have e:bo (eU r) (u5 p k (f+1) l m)=if ka r p k<ka r p ((l+m) / 2)then bo (eU r) (u5 p k f l ((l+m) / 2))else bo (eU r) (u5 p k f ((l+m) / 2+1) m):=by
    show bo (eU r) (if l ≥ m then _ else _)=_;rw[if_neg c];show bo (eU r) (if (eU r) (p.getD k 0) (p.getD ((l+m) / 2) 0)=cn then _ else _)=_;unfold ka;by_cases d:r (p.getD k 0)<r (p.getD ((l+m) / 2) 0)
    ·rw[if_pos (NI d),if_pos d]
    ·rw[if_neg (λz=>d (Om z)),if_neg d]
   rw[e];by_cases d:ka r p k<ka r p ((l+m) / 2)
   ·rw[if_pos d];exact oy Z f l ((l+m) / 2) (by omega) (by omega) (by omega) h1 λi Y X=>Nv (O1 d) (Z _ i Y X)
   ·rw[if_neg d];exact oy Z f ((l+m) / 2+1) m (by omega) (by omega) hm (λi Y=>Nv (Z i ((l+m) / 2) (by omega) (by omega)) (by omega)) h2
theorem zI:∀(f:Nat) (p:Array Nat) (k:Nat),k+f<=p.size->CJ r p k->CJ r (bo (eU r) (Sa f p k)) (k+f)/\(bo (eU r) (Sa f p k)).Perm p
 |0,p,k,hs,h=>⟨h,Qe _⟩
 | f +1,p,k,hs,h=>by
  have e:bo (eU r) (Sa (f+1) p k)=bo (eU r) (Sa f (T7 p k (k - bo (eU r) (u5 p k k 0 k))) (k+1)):=by show bo (eU r) ((u5 p k k 0 k).bind _)=_;rw[iY]
  rw[e];obtain⟨P,X,U⟩:=oy (r:=r) h k 0 k (by omega) (by omega) (Nq _) (λi W=>absurd W (Ry _)) (λi W Q=>absurd Q (by omega));generalize bo (eU r) (u5 p k k 0 k)=l at P X U;have T:CJ r (T7 p k (k - l)) (k+1):=λi j Z O=>by
   rw[tK (by omega) (by omega),tK (by omega) (by omega)];have Y:k - (k - l)=l:=by omega
   rw[Y];by_cases ei:i=l
   ·rw[if_pos ei];by_cases ej:j=l
    ·rw[if_pos ej];exact Nq _
    ·rw[if_neg ej,if_pos ⟨by omega,by omega⟩];exact U (j - 1) (by omega) (by omega)
   ·rw[if_neg ei];by_cases ci:l<i/\i<=k
    ·rw[if_pos ci,if_neg (by omega),if_pos ⟨by omega,by omega⟩];exact h _ _ (by omega) (by omega)
    ·rw[if_neg ci];by_cases ej:j=l
     ·rw[if_pos ej];exact X i (by omega)
     ·rw[if_neg ej];by_cases cj:l<j/\j<=k
      ·rw[if_pos cj];exact h _ _ (by omega) (by omega)
      ·rw[if_neg cj];exact h _ _ Z (by omega)
  obtain⟨S,R⟩:=zI f (T7 p k (k - l)) (k+1) (by rw[bubble_size];omega) T;refine⟨?_,R.trans (bubble_perm _ _ _)⟩;rw[show k+(f+1)=k+1+f by omega];exact S
theorem CK(X:2<=n):CJ r (bo (eU r) (x_ n)) n/\(bo (eU r) (x_ n)).Perm (H_ (d_ n)):=by
 unfold x_;rw[iY];have G:=A6 (r:=r) (nrem:=n) (p:=H_ (d_ n)) X (by simp);generalize bo (eU r) (SF n (H_ (d_ n)))=g at G;obtain⟨m,p⟩:=g;have W:p.size=n:=by rw[G.perm.size_eq];simp
 have hle:m<=n:=G.le;have Y:1<=m:=G.pos;show CJ r (bo (eU r) (if m<n then Sa (n - max m 1) p (max m 1)else Ss p)) n/\Array.Perm (bo (eU r) (if m<n then Sa (n - max m 1) p (max m 1)else Ss p)) (H_ (d_ n));by_cases c:m<n
 ·rw[if_pos c];have em:max m 1=m:=by omega
  rw[em];obtain⟨Z,U⟩:=zI (r:=r) (n - m) p m (by omega) G.asc;refine⟨?_,U.trans G.perm⟩;rw[show m+(n - m)=n by omega]at Z;exact Z
 ·rw[if_neg c];have em:m=n:=by omega
  subst em;exact⟨G.asc,G.perm⟩
end
def xP(n:Nat){α:Type}(R:α->Prop):T6 α->Prop
 | .ret a=>R a
 | .ask i j k=>i<n/\j<n/\∀b,xP n R (k b)
theorem jU{n:Nat}{α β:Type}{R:α->Prop}{Z:β->Prop}{f:α->T6 β}:∀{t:T6 α},xP n R t->(∀a,R a->xP n Z (f a))->xP n Z (t.bind f)
 | .ret a,h,k=>k a h
 | .ask i j g,h,k=>⟨h.1,h.2.1,λb=>jU (h.2.2 b) k⟩
theorem CL{n:Nat}{α:Type}{R:α->Prop}{Z:Nat->Nat->(Bool->b_->Prop)->b_->Prop}{b:Nat->Nat->Bool}{s:b_}{Q:α->b_->Prop}(h:∀i j C,i<n->j<n->C (b i j) s->Z i j C s):
  ∀{t:T6 α},xP n R t->Q (bo b t) s->t.kasWp Z Q s
 | .ret a,_,q=>q
 | .ask i j k,o,q=>h i j _ o.1 o.2.1 (CL h (o.2.2 (b i j)) q)
theorem qQ{n:Nat}{α:Type}{R:α->Prop}{b Z:Nat->Nat->Bool}(h:∀i j,i<n->j<n->b i j=Z i j):∀{t:T6 α},xP n R t->bo b t=bo Z t
 | .ret a,_=>rfl
 | .ask i j k,o=>by
  show bo b (k (b i j))=bo Z (k (Z i j));rw[h i j o.1 o.2.1];exact qQ h (o.2.2 _)
def In(n:Nat)(p:Array Nat):Prop:=0<n/\∀x∈p.toList,x<n
theorem In.get(h:In n p)(k:Nat):p.getD k 0<n:=by
 rw[N8];cases e:p[k]? with
 |none=>exact h.1
 |some x=>exact h.2 x (by rw[<-NW]at e;exact N4 e)
theorem In.perm{q:Array Nat}(h:In n p)(e:q.Perm p):In n q:=⟨h.1,λx Z=>h.2 x ((Array.Perm.toList e).mem_iff.mp Z)⟩
theorem uB(h:In n p):∀(f m:Nat),xP n (λ_=>True) (vr p f m)
 |0,m=>trivial
 | f+1,m=>⟨h.get _,h.get _,λb=>by
   cases b with
   |true=>exact trivial
   |false=>exact uB h f (m+1)⟩
theorem nD:∀(f:Nat) (p:Array Nat) (m q:Nat),In n p->xP n (λr=>In n r.1) (wh f p m q)
 |0,p,m,q,h=>h
 | f+1,p,m,q,h=>⟨h.get _,h.get _,λb=>by
   cases b with
   |true=>
    show xP n _ (if q>0 then _ else _);split
    ·exact nD f _ _ _ (h.perm fT)
    ·exact nD f _ _ _ h
   |false=>
    refine⟨h.get _,h.get _,λb=>?_⟩;cases b with
    |true=>exact h
    |false=>exact nD f _ _ _ h⟩
theorem tN(h:In n p):xP n (λr:Nat×Array Nat=>In n r.2) (Tw m nrem p):=
 jU (uB (h.perm fT) _ _) λ_ _=>h.perm fT
theorem nE(h:In n p):xP n (λr:Nat×Array Nat=>In n r.2) (Su m nrem p):=
 jU (nD _ _ _ _ h) λa Z=>by
  split
  ·exact tN (Z.perm fT)
  ·exact tN Z
theorem A7(h:In n p):xP n (λr:Nat×Array Nat=>In n r.2) (SF nrem p):=
 jU (uB h _ _) λa _=>by
  split
  ·exact h
  ·split
   ·refine⟨h.get _,h.get _,λb=>?_⟩;cases b with
    |true=>exact h
    |false=>exact nE (h.perm fT)
   ·exact nE h
theorem oz(h:In n p):∀(f l m:Nat),xP n (λ_=>True) (u5 p k f l m)
 |0,l,m=>trivial
 | f+1,l,m=>by
  show xP n _ (if l ≥ m then _ else _);split
  ·exact trivial
  ·refine⟨h.get _,h.get _,λb=>?_⟩;cases b with
   |true=>exact oz h f _ _
   |false=>exact oz h f _ _
theorem zJ:∀(f:Nat) (p:Array Nat) (k:Nat),In n p->xP n (In n) (Sa f p k)
 |0,p,k,h=>h
 |f+1,p,k,h=>jU (oz h _ _ _) λl _=>zJ f _ _ (h.perm (bubble_perm _ _ _))
theorem vY(X:0<n):xP n (In n) (x_ n):=
 jU (A7 ⟨X,λx Y=>by simpa using Y⟩) λa Z=>by
  split
  ·exact zJ _ _ _ Z
  ·exact Z
theorem vZ{α:Type}{p q:α->Bool}:∀{l:List α} {x:α},(∀y∈l,p y=cn->q y=cn)->x∈l->p x=dt->q x=cn->l.countP p<l.countP q
 | y::l,x,h,hx,hp,hq=>by
  have W:l.countP p<=l.countP q:=List.countP_mono_left λz Z=>h z (Nx _ Z);rw[List.countP_cons,List.countP_cons];rcases NJ.mp hx with e|hx'
  ·subst e;rw[hp,hq];simp;omega
  ·have X:=vZ (λz Z=>h z (Nx _ Z)) hx' hp hq;have Y:=h y NF;cases e1:p y with
   |true=>rw[Y e1];simp;omega
   |false=>simp;split<;>omega
theorem Fs{b:Nat->Nat->Bool}(O:2<=n)(U:∀i,i<n->b i i=dt)(Q:∀i j k,i<n->j<n->k<n->b i j=cn->b j k=cn->b i k=cn)(S:∀i j k,i<n->j<n->k<n->b i k=cn->b i j=cn\/b j k=cn):
  (bo b (x_ n)).Perm (H_ (d_ n))/\∀i j,i<=j->j<n->b ((bo b (x_ n)).getD j 0) ((bo b (x_ n)).getD i 0)=false:=by
 let r:Nat->Nat:=λi=>(d_ n).countP λj=>b j i;have R:∀i j,i<n->j<n->b i j=decide (r i<r j):=λi j X Y=>by
  cases e:b i j with
  |true=>
   refine(NI ?_).symm;exact vZ (x:=i) (λy T h=>Q y i j (NR.mp T) X Y h e) (NR.mpr X) (U i X) e
  |false=>
   refine(N7 (RF.mpr ?_)).symm;refine List.countP_mono_left λy T h=>?_;rcases S y i j (NR.mp T) X Y h with z|z
   ·exact z
   ·rw[e]at z;cases z
 have P:bo b (x_ n)=bo (eU r) (x_ n):=qQ R (vY (by omega));obtain⟨a1,a2⟩:=CK (r:=r) O;rw[P];refine⟨a2,λi j W Y=>?_⟩;have Z:In n (bo (eU r) (x_ n)):=In.perm ⟨by omega,λx N=>by simpa using N⟩ a2;rw[R _ _ (Z.get j) (Z.get i)];exact N7 (RF.mpr (a1 i j W Y))
end S3
namespace S3
open PySem PySem.Spec PySem.W PyProof.Rows L2
section
variable {prog:eb}{w:eK}{A:gg}{E:aC->b_->Prop}{s:b_}{Q:Bool->b_->Prop}
theorem v5:∀{us ws:List aC} {ns ms:List Int} (i:Nat),pb us ns->pb ws ms->Q (HT.lexLt ns ms) s->
  KatLex prog w A b (decide (us.length<ws.length)) Q (us.zip ws) i s
 |[],[],ns,ms,i,h1,h2,q=>by
  cases h1;cases h2;exact q
 |[],_::_,_,_,_,h1,h2,q=>by
  cases h1;cases h2;exact q
 |_::_,[],_,_,_,h1,h2,q=>by
  cases h1;cases h2;exact q
 | u::us,v::ws,ns,ms,i,h1,h2,q=>by
  cases h1 with
  |cons n t h1=>
  cases h2 with
  | cons k t' h2=>
   rw[HT.lexLt_cons]at q;by_cases e:n=k
   ·rw[if_pos e]at q;refine kat_cons (Ru ?_);have:(n==k)=true:=by simp[e]
    rw[this];refine kat_yes ?_;show KatLex prog w A b (decide (us.length+1<ws.length+1)) Q (us.zip ws) (i+1) s;rw[show decide (us.length+1<ws.length+1)=decide (us.length<ws.length) by simp];exact v5 (i+1) h1 h2 q
   ·rw[if_neg e]at q;refine kat_cons (Ru ?_);have:(n==k)=false:=by simp[e]
    rw[this];refine kat_no ?_;cases hbi:(b && i==0)with
    |true=>exact oneLt_int q
    |false=>exact kat_one _ _ (lt_int q)
end
structure Tups(h:f')(vs:List aC)(nss:List (List Int)):Prop where
 len:vs.length=nss.length
 get:∀(i:Nat),i<vs.length->∃a o us n,vs.getD i h_= .ref a/\h.get? a=ar o/\o.cls= .type "tuple"/\o.data= .seq us n/\pb us.toList (nss.getD i [])/\0<us.size
theorem Tups.keep{h':f'}(t:Tups h vs nss)(k:∀i a o,i<vs.length->vs.getD i h_= .ref a->h.get? a=ar o->h'.get? a=ar o):Tups h' vs nss:=
 ⟨t.len,λi Z=>let ⟨a,o,us,n,e1,e2,r⟩:=t.get i Z;⟨a,o,us,n,e1,k i a o Z e1 e2,r⟩⟩
theorem Tups.ask{s:b_}(t:Tups s.heap vs nss){C:Bool->b_->Prop}(X:i<vs.length)(Z:j<vs.length)
  (q:C (HT.lexLt (nss.getD i []) (nss.getD j [])) s):kas_ask prog w A (tuples' b) vs i j C s:=by
 obtain⟨a,o,us,n,e1,e2,e3,W,U,O⟩:=t.get i X;obtain⟨R,Q,T,P,f1,f2,N,f4,Y,S⟩:=t.get j Z;unfold kas_ask;rw[e1,f1];refine kat_lt e2 W f2 f4 ?_;have z:=v5 (prog:=prog) (w:=w) (A:=A) (b:=b) 0 U Y q;simpa using z
end S3
namespace S3
open PySem PySem.Spec PyProof.Rows L2
abbrev St:=L2.St
def kU(cells:List (Str×bc)):List (Str×oo)->List (Str×bc)->List (Str×bc)
 |[],cs=>cs
 |(n,k)::r,cs=>kU cells r (if k== .free then (n,(cells.lookup n).getD 0)::cs else cs)
theorem iI(scope:Scope)(env:Env)(h:∀y∈scope.names,y.2= .free->∃c,env.cells.lookup y.1=ar c):Tf scope env=a_ (kU env.cells scope.names []):=by
 have go:∀(names:List (Str×oo)) (cs:List (Str×bc)),(∀y∈names,y.2= .free->∃c,env.cells.lookup y.1=ar c)->
   (Ud names cs (λ(x:Str×oo) (r:List (Str×bc))=>(if (x.2==hY)=cn then do let a<-cellOf env x.1;a_ (G2 ((x.1,a)::r))else a_ (G2 r):Sem (ForInStep (List (Str×bc))))):Sem (List (Str×bc)))=a_ (kU env.cells names cs):=by
  intro names
  induction names with
  |nil=>intro cs _;rfl
  | cons y r ih=>
   intro cs U;obtain⟨n,k⟩:=y;have X:∀y∈r,y.2= .free->∃c,env.cells.lookup y.1=ar c:=λy hm=>U y (Nx _ hm);rw[RU];by_cases hk:(k==hY)=cn
   ·have Y:k= .free:=by simpa using hk
    obtain⟨c,W⟩:=U (n,k) NF Y;have e:cellOf env n=a_ c:=by unfold cellOf;rw[W]
    simp only[hk,if_true,e,pure_bind];rw[ih _ X];simp only[kU,hk,if_true,W,Option.getD_some]
   ·have Z:(k==hY)=false:=by simpa using hk
    simp only[Z,e_,if_false,pure_bind];rw[ih _ X];simp only[kU,Z,e_,if_false]
 have:=go scope.names [] h;unfold Tf;simp only[bind_pure]at*;exact this
theorem uC{cells:List (Str×bc)}:∀(names:List (Str×oo)) (cs:List (Str×bc)),(∀y∈names,y.2= .free->∃c,cells.lookup y.1=ar c)->(∀p∈cs,cells.lookup p.1=ar p.2)->
  ∀p∈kU cells names cs,cells.lookup p.1=ar p.2
 |[],cs,_,h=>h
 | (n,k)::r,cs,hy,h=>by
  refine uC r _ (λy hm=>hy y (Nx _ hm)) λp Z=>?_;by_cases hk:(k==hY)=cn
  ·rw[if_pos hk]at Z;rcases NJ.mp Z with rfl|Z
   ·obtain⟨c,X⟩:=hy (n,k) NF (by simpa using hk);show cells.lookup n=ar ((cells.lookup n).getD 0);have Y:cells.lookup n=ar c:=X;rw[Y];rfl
   ·exact h p Z
  ·rw[if_neg hk]at Z;exact h p Z
theorem kX:∀(names:List (Str×oo)) (cs:List (Str×bc)),(x,hY)∈names\/x∈cs.map (·.1)->x∈(kU cells names cs).map (·.1)
 |[],cs,h=>by
  rcases h with h|h
  ·cases h
  ·exact h
 | (n,k)::r,cs,h=>by
  refine kX r _ ?_;rcases h with h|h
  ·rcases NJ.mp h with e|h
   ·cases e;refine .inr ?_;simp
   ·exact .inl h
  ·refine .inr ?_;by_cases hk:(k==hY)=cn
   ·rw[if_pos hk];exact Nx _ h
   ·rw[if_neg hk];exact h
theorem lookup_mem:∀{l:List (Str×bc)},l.lookup x=ar c->(x,c)∈l
 |[],h=>by cases h
 | (n,a)::r,h=>by
  by_cases e:x==n
  ·have Z:x=n:=by simpa using e
   rw[Oe,e]at h;have h':ar a=ar c:=h;cases h';subst Z;exact NF
  ·have e2:(x==n)=false:=by simpa using e
   rw[Oe,e2]at h;exact Nx _ (lookup_mem h)
theorem mem_lookup:∀{l:List (Str×bc)},x∈l.map (·.1)->∃c,l.lookup x=ar c
 |[],h=>by cases h
 | (n,a)::r,h=>by
  by_cases e:x==n
  ·exact⟨a,by rw[Oe,e]⟩
  ·have e2:(x==n)=false:=by simpa using e
   rw[Oe,e2];refine mem_lookup ?_;rcases NJ.mp h with z|z
   ·have Z:x=n:=z;subst Z;simp at e
   ·exact z
theorem bz:∀{l:List (Str×oo)},l.lookup x=ar k->(x,k)∈l
 |[],h=>by cases h
 | (n,a)::r,h=>by
  by_cases e:x==n
  ·have Z:x=n:=by simpa using e
   rw[Oe,e]at h;have h':ar a=ar k:=h;cases h';subst Z;exact NF
  ·have e2:(x==n)=false:=by simpa using e
   rw[Oe,e2]at h;exact Nx _ (bz h)
theorem j9{env:Env}:∀{names:List (Str×oo)} {k:oo},
  (names.map λ(n,k)=>if (k==hY && env.scope.kind== .function && env.kindOf n==ar .cell)then (n,ri)else (n,k)).lookup x=ar k->
   names.lookup x=ar k\/(k= .cell/\names.lookup x=ar .free)
 |[],k,h=>by cases h
 | (n,a)::r,k,h=>by
  by_cases e:x==n
  ·rw[NH]at h;by_cases c:(a==hY && env.scope.kind== .function && env.kindOf n==ar .cell)=cn
   ·have Y:a= .free:=by
     simp only[k',beq_iff_eq]at c;exact c.1.1
    simp only[c,if_true,m2,e]at h;cases h;refine .inr ⟨rfl,?_⟩;rw[Oe,e,Y]
   ·have Z:(a==hY && env.scope.kind== .function && env.kindOf n==ar .cell)=false:=by simpa using c
    simp only[Z,e_,if_false,m2,e]at h;refine .inl ?_;rw[Oe,e];exact h
  ·have e2:(x==n)=false:=by simpa using e
   rw[Oe,e2];refine j9 (env:=env) (names:=r) ?_;rw[NH]at h;by_cases c:(a==hY && env.scope.kind== .function && env.kindOf n==ar .cell)=cn
   ·simp only[c,if_true,m2,e2]at h;exact h
   ·have Z:(a==hY && env.scope.kind== .function && env.kindOf n==ar .cell)=false:=by simpa using c
    simp only[Z,e_,if_false,m2,e2]at h;exact h
theorem nF{env:Env}:∀{names:List (Str×oo)},names.lookup x=ar .free->
  (names.map λ(n,k)=>if (k==hY && env.scope.kind== .function && env.kindOf n==ar .cell)then (n,ri)else (n,k)).lookup x=ar .cell\/
  (names.map λ(n,k)=>if (k==hY && env.scope.kind== .function && env.kindOf n==ar .cell)then (n,ri)else (n,k)).lookup x=ar .free
 |[],h=>by cases h
 | (n,a)::r,h=>by
  rw[NH];by_cases e:x==n
  ·rw[Oe,e]at h;have X:ar a=ar NameKind.free:=h;cases X;by_cases c:(hY==hY && env.scope.kind== .function && env.kindOf n==ar .cell)=cn
   ·refine .inl ?_;simp only[c,if_true,m2,e]
   ·have Z:(hY==hY && env.scope.kind== .function && env.kindOf n==ar .cell)=false:=by simpa using c
    refine .inr ?_;simp only[Z,e_,if_false,m2,e]
  ·have e2:(x==n)=false:=by simpa using e
   rw[Oe,e2]at h;have Y:=nF (env:=env) h;by_cases c:(a==hY && env.scope.kind== .function && env.kindOf n==ar .cell)=cn
   ·simp only[c,if_true,m2,e2];exact Y
   ·have Z:(a==hY && env.scope.kind== .function && env.kindOf n==ar .cell)=false:=by simpa using c
    simp only[Z,e_,if_false,m2,e2];exact Y
theorem yc:∀{names:List (Str×oo)} {n:Nat} {acc:List (Str×bc)} {p:Str×bc},p∈lx n names acc->p∈acc\/n<=p.2
 |[],n,acc,p,h=>.inl h
 | (x,k)::r,n,acc,p,h=>by
  unfold lx at h;split at h
  ·rcases yc h with h|h
   ·rcases NJ.mp h with rfl|h
    ·exact .inr (Nq _)
    ·exact .inl h
   ·exact .inr (Qt h)
  ·exact yc h
theorem yd:∀{names:List (Str×oo)} {n:Nat} {acc:List (Str×bc)},(∀p∈acc,p.2<n)->(∀x y c,(x,c)∈acc->(y,c)∈acc->x=y)->∀x y c,(x,c)∈lx n names acc->(y,c)∈lx n names acc->x=y
 |[],n,acc,_,hi,x,y,c,h1,h2=>hi x y c h1 h2
 | (z,k)::r,n,acc,hl,hi,x,y,c,h1,h2=>by
  unfold lx at h1 h2;by_cases hk:(k==ri)=cn
  ·rw[if_pos hk]at h1 h2;refine yd (λp Z=>?_) (λx y c g1 g2=>?_) x y c h1 h2
   ·rcases NJ.mp Z with rfl|Z
    ·exact Po _
    ·exact OC (hl p Z)
   ·rcases NJ.mp g1 with g1|g1<;>rcases NJ.mp g2 with g2|g2
    ·rw[<-g2]at g1;exact(Prod.mk.inj g1).1
    ·cases g1;exact absurd (hl _ g2) (O0 _)
    ·cases g2;exact absurd (hl _ g1) (O0 _)
    ·exact hi x y c g1 g2
  ·rw[if_neg hk]at h1 h2;exact yd hl hi x y c h1 h2
theorem uD:∀{names:List (Str×oo)} {n:Nat} {acc:List (Str×bc)},(∀y∈names,y.2= .cell->y.1≠x)->(lx n names acc).lookup x=acc.lookup x
 |[],_,_,_=>rfl
 | (z,k)::r,n,acc,h=>by
  unfold lx;split
  ·next hk=>
   rw[uD λy Z=>h y (Nx _ Z),Oe];have:(x==z)=false:=by have:=h (z,k) NF (by simpa using hk);simpa using k_ this
   rw[this]
  ·exact uD λy Z=>h y (Nx _ Z)
theorem uE:∀{names:List (Str×oo)} {h:f'} {acc:List (Str×bc)} {p:Str×bc},p∈lx h.objs.size names acc->p∈acc\/(pushCells h names).IsCell p.2 none
 |[],h,acc,p,q=>.inl q
 | (x,k)::r,h,acc,p,q=>by
  unfold lx at q;unfold pushCells;split at q
  ·next hk=>
   rw[if_pos hk];have Z:p∈lx (h.push {cls:=.type "cell",data:=.cell none}).objs.size r ((x,h.objs.size)::acc):=by rw[OB];exact q
   rcases uE Z with Z|Z
   ·rcases NJ.mp Z with rfl|Z
    ·exact .inr ⟨_,Rz _ _ _ _ (Nw _ rfl),rfl⟩
    ·exact .inl Z
   ·exact .inr Z
  ·next hk=>
   rw[if_neg hk];exact uE q
theorem ye:∀(names:List (Str×oo)) (n:Nat) (acc:List (Str×bc)),((x,ri)∈names\/∃c,acc.lookup x=ar c/\m<=c)->m<=n->(lx n names acc).lookup x=ar a->m<=a
 | [],n,acc,h,hm,e=>by
  rcases h with h|⟨c,h2,h3⟩
  ·cases h
  ·have Y:acc.lookup x=ar a:=e;rw[h2]at Y;cases Y;exact h3
 | (z,k)::r,n,acc,h,hm,e=>by
  unfold lx at e;by_cases hk:(k==ri)=cn
  ·rw[if_pos hk]at e;refine ye r (n+1) _ ?_ (Nat.le_succ_of_le hm) e;by_cases hz:(x==z)=cn
   ·exact .inr ⟨n,by rw[Oe,hz],hm⟩
   ·have Z:(x==z)=false:=by simpa using hz
    rcases h with h|⟨c,h2,h3⟩
    ·rcases NJ.mp h with h|h
     ·cases h;simp at hz
     ·exact .inl h
    ·exact .inr ⟨c,by rw[Oe,Z];exact h2,h3⟩
  ·rw[if_neg hk]at e;refine ye r n acc ?_ hm e;rcases h with h|h
   ·rcases NJ.mp h with h|h
    ·cases h;simp at hk
    ·exact .inl h
   ·exact .inr h
theorem tO{s:b_}{scope:Scope}{env:Env}
  (h:∀h1,h1.Ns s.heap.objs.size (λ_=>none)->(∀b o,s.heap.get? b=ar o->h1.get? b=ar o)->(∀p∈lx (s.heap.objs.size+1) scope.names cl,p∈cl\/h1.IsCell p.2 none)->
   Q {scope,locals:=s.heap.objs.size,globals:=env.globals,cells:=lx (s.heap.objs.size+1) scope.names cl,qual:=env.qual,func:=none,code:=env.code,frame:=env.frame,builtins:=env.builtins} {s with heap:=h1}):
  ed M A (newFunctionEnv scope env.globals cl [] env.qual none .none (ar env)) Q E s:=by
 simp only[newFunctionEnv,Option.isSome_some,if_true];refine Nk (wpAny_alloc (Nk (wpAny_layCells _ (λname kind cells=>by cases hkc:kind==ri<;>simp[hkc]) _ _ _ _ ?_)));have e:({s with heap:=s.heap.push {cls:=.type "dict",data:=.dict #[]}}:b_).heap.objs.size=s.heap.objs.size+1:=OB ..;rw[e];refine Nk (m:=Ud [] _ _) (Nr (Nr (h _ ((Heap.Ns.new s.heap (.type "dict")).keeps (Rz _ _)) (λb o q=>Rz _ _ b o (Nm _ q)) λp Z=>?_)));exact uE (h:=s.heap.push {cls:=.type "dict",data:=.dict #[]}) (by rw[e];exact Z)
def aR(X:Cx)(scope:Scope)(Nc:List Str)(C:bc)(ex:List bc)(s:b_)(H:Hp):Cx:=
 {X with N:=Nc,s₀:=s,H₀:=H,env:=compEnvC scope (lx (C+1) scope.names (kU X.env.cells scope.names [])) C X.env,outer:=X.stack,stack:=X.stack,ex:=ex,fn:=λx=>scope.names.lookup x==ar .cell,pn:=[],xe:=λ_ _=>False}
structure CompScope(X:Cx)(scope:Scope)(Nc:List Str)(js:List (Option Nat)):Prop where
 kind:scope.kind= .function
 cel:∀y∈scope.names,y.2= .cell->scope.names.lookup y.1=ar .cell
 loc:∀y∈scope.names,y.2= .local->scope.names.lookup y.1=ar .local
 free:∀y∈scope.names,y.2= .free->X.env.kindOf y.1=ar .cell\/X.env.kindOf y.1=ar .free
 len:js.length=Nc.length
 ix:∀(i:Nat) (x:Str) (j:Nat),Nc[i]? =ar x->js[i]? =ar (ar j)->X.N[j]? =ar x/\scope.names.lookup x=ar .free
def oA(js:List (Option Nat))(σ:St):St:=js.map λo=>o.bind λj=>(σ[j]?).join
def E2(X:Cx)(ifs:List Expr)(t:TT):Prop:=
 ∀(pins:List (bc×Obj)) (s:b_) (σ:St) (H:Hp) (Q:Bool->Hp->Prop),Inv X pins σ H s->t σ H Q->
  ed (fb X.prog X.w) X.A (Ud ifs cn λc r=>if r=cn then do let ok<-isTrue c X.env (hO c X.env);a_ (G2 ok)else a_ (G2 r)) (TP X pins σ Q) X.xe s
theorem Ft:E2 X [] (λ_ H Q=>Q cn H):=λpins s σ H Q I h=>wpAny_tests_nil ⟨H,I,h⟩
theorem Fu(h:PT X c t):E2 X [c] t:=λpins s σ H Q I hw=>wpAny_tests_one (h pins s σ H Q I hw)
def zK(wi:TI)(js:List (Option Nat))(g:TG)(tt:TT)(te:TE):TE:=λσ H Q=>wi σ H λJ H1=>∀p,H1 p=none->
 ∃W:Nat->Nat->St->Hp->Prop,(∃m,W 0 m (oA js σ) (upd H1 p (.lst [])))/\∀i m σc Hc,W i m σc Hc->
  (J.stop i Hc/\Q (.ref p) Hc)\/(J.go i Hc/\∃N:St->Hp->Prop,(∀ σ' H',N σ' H'->∃m',m'<m/\W (i+1) m' σ' H')/\∀x H',J.yld i Hc x H'->g x σc H' λσ2 H2=>tt σ2 H2 λb H3=>
   if b=cn then te σ2 H3 λy H4=>∃xs,H4 p=ar (.lst xs)/\xs.length<sizeLine/\N σ2 (upd H4 p (.lst (xs++[y])))else N σ2 H3)
section
variable {X:Cx}{scope:Scope}{Nc:List Str}{js:List (Option Nat)}{pins:List (bc×Obj)}{σ:St}{H:Hp}{s:b_}
theorem CompScope.has(c:CompScope X scope Nc js)(Z:X.Ok):∀y∈scope.names,y.2= .free->∃a,X.env.cells.lookup y.1=ar a:=λy Y e=>Z.has y.1 (c.free y Y e)
theorem qR{J:f'}(c:CompScope X scope Nc js)(I:Inv X pins σ H s)(U:∀b∈ex,j7 X pins H b)(K:∀b∈ex,b<s.heap.objs.size)
  (R:C=s.heap.objs.size) (hn:J.Ns C (λ_=>none)) (hs:∀b o,s.heap.get? b=ar o->J.get? b=ar o)
  (t:∀p∈lx (C+1) scope.names (kU X.env.cells scope.names []),p∈kU X.env.cells scope.names []\/J.IsCell p.2 none):
  Inv (aR X scope Nc C ex s H) [] (oA js σ) H {s with heap:=J,toks:=tk}:=by
 have Y:=uC (cells:=X.env.cells) scope.names [] (c.has I.ok) (λ_ z=>nomatch z);have P:∀x a,(kU X.env.cells scope.names []).lookup x=ar a->X.env.cells.lookup x=ar a:=λx a e=>Y _ (lookup_mem e);have A:∀b o,s.heap.get? b=ar o->b≠C:=λb o e=>by rw[R];exact NB (Nu e)
 have Q:∀p∈kU X.env.cells scope.names [],p.2<C+1:=λp w=>by obtain⟨v,F,O,_⟩:=I.cell p.1 p.2 (Y p w);rw[R];exact OC (Nu O)
 have Z:∀x a,(lx (C+1) scope.names (kU X.env.cells scope.names [])).lookup x=ar a->X.env.cells.lookup x=ar a\/(C<a/\J.IsCell a none):=λx a e=>by
  have hm:=lookup_mem e;rcases t _ hm with z|z
  ·exact .inl (Y _ z)
  ·rcases yc hm with y|y
   ·exact .inl (Y _ y)
   ·exact .inr ⟨y,z⟩
 refine⟨⟨I.ok.mod,c.kind,I.ok.glob,I.ok.blt,P8 R.symm,λx y a e1 e2=>yd Q (λx y a e1 e2=>I.ok.inj x y a (Y _ e1) (Y _ e2)) x y a (lookup_mem e1) (lookup_mem e2),λx L=>?_,λx a z e=>?_,I.ok.hd,I.ok.frames,.inl rfl,λb W=>⟨?_,λx a e z=>?_⟩,
  I.bs,Nv I.ok.bsz I.sz,λb o e W=>?_,λb W z=>?_,I.stack,I.stkFree⟩,rfl,I.bare,Un.kept hs,⟨_,hn,λi x v e1 e2 e3=>?_⟩,λx a e=>?_,?_,λx a e=>?_,(λp w=>nomatch w),I.hok.kept hs,?_⟩
 ·-- names that are cells here have one
  have E:scope.names.lookup x=ar .free\/scope.names.lookup x=ar .cell:=by
   rcases L with L|L
   ·rcases j9 (env:=X.env) (names:=scope.names) L with z|⟨_,z⟩
    ·exact .inr z
    ·exact .inl z
   ·rcases j9 (env:=X.env) (names:=scope.names) L with z|⟨z,_⟩
    ·exact .inl z
    ·cases z
  refine OX.mp (Qm scope.names (C+1) _ ?_);rcases E with z|z
  ·exact .inr (OX.mpr (mem_lookup (kX scope.names [] (.inl (bz z)))))
  ·exact .inl z
 ·-- the block's own cells are new
  have z':scope.names.lookup x=ar .cell:=by have:(scope.names.lookup x==ar .cell)=true:=z;simpa using this
  show s.heap.objs.size<=a;rw[<-R];exact Qt (ye (m:=C+1) scope.names (C+1) _ (.inl (bz z')) (Nq _) e)
 ·show b≠C;rw[R];exact NB (K b W)
 ·rcases Z x a e with y|⟨y,_⟩
  ·exact(U b W).2.2.2.2.1 x a y z
  ·rw[z,R]at y;exact O0 _ (QY y (K b W))
 ·have:b<X.base.objs.size:=Nu e;rcases (U b W).2.2.2.1 with z|z
  ·exact I.ok.noex b o e z
  ·exact absurd (NC this (Nv I.ok.bsz z)) (O0 _)
 ·rcases NJ.mp (I.stkSub b z)with e|e
  ·exact(U b W).2.1 e
  ·exact(U b W).2.2.1 e
 ·-- the names that are read from around
  have B:Nc[i]? =ar x:=e1;have:∃j,js[i]? =ar (ar j)/\σ[j]? =ar (ar v):=by
   unfold oA at e2;rw[NM]at e2;cases q:js[i]? with
   |none=>rw[q]at e2;cases e2
   | some o=>
    rw[q]at e2;cases o with
    |none=>cases e2
    |some j=>
     refine⟨j,rfl,?_⟩;have T:(σ[j]?).join=ar v:=NP e2;cases r:σ[j]? with
     |none=>rw[r]at T;cases T
     |some z=>rw[r]at T;exact QL ar T
  obtain⟨j,n,f⟩:=this;obtain⟨hN,S⟩:=c.ix i x j B n;obtain⟨m,d,g⟩:=I.loc;have G:=c.free (x,.free) (bz S) rfl;have N:GT X.env.scope x:=by
   rcases G with z|z
   ·exact .inr (.inl z)
   ·exact .inr (.inr z)
  obtain⟨u,k,l⟩:=g j x v hN f N;refine⟨u,k,.inr ⟨?_,?_⟩⟩
  ·rcases nF (env:=X.env) S with z|z
   ·exact .inl z
   ·exact .inr z
  ·rcases l with⟨z,_⟩|⟨_,a,ea,ha⟩
   ·rcases G with y|y
    ·rw[show X.env.kindOf x=ar ri from y]at z;cases z
    ·rw[show X.env.kindOf x=ar hY from y]at z;cases z
   ·obtain⟨b,W⟩:=mem_lookup (kX (cells:=X.env.cells) scope.names [] (.inl (bz S)));have:=P x b W;rw[ea]at this;cases this;obtain⟨F,O,hd⟩:=ha;refine⟨a,?_,F,hs _ _ O,hd⟩;show(lx (C+1) scope.names (kU X.env.cells scope.names [])).lookup x=ar a;rw[uD λy h e z=>by have:=c.cel y h e;rw[z,S]at this;cases this];exact W
 ·rcases Z x a e with y|⟨_,y⟩
  ·obtain⟨v,F,O,hd⟩:=I.cell x a y;exact⟨v,F,hs _ _ O,hd⟩
  ·exact⟨_,y⟩
 ·show H C=none;rw[R];exact I.hok.fresh (Nq _)
 ·rcases Z x a e with y|⟨y,_⟩
  ·exact I.freeC x a y
  ·exact I.hok.fresh (by rw[<-R];exact O1 y)
 ·show(oA js σ).length=Nc.length;unfold oA;rw[Nl];exact c.len
theorem v7(I:Inv X pins σ H s)(P:C=s.heap.objs.size)(Z:∀b∈ex,j7 X pins H b)
  (U:Inv (aR X scope Nc C ex s H) [] σc H' s') (hs:s_ C s'.heap h2):Inv X pins σ H' {s' with heap:=h2}:=by
 have W:∀b o,s.heap.get? b=ar o->b≠C:=λb o e=>by rw[P];exact NB (Nu e)
 have B:=U.base;have u:Un (kP X.stack) ex H H' s.heap h2:={
  keep:=λb o e n Y T=>(hs.2 b (W b o e)).trans (B.keep b o e n Y T)
  slot:=λb o e n Y T=>by obtain⟨R,q⟩:=B.slot b o e n Y T;exact⟨R,(hs.2 b (W b o e)).trans q⟩
  free:=B.free
  there:=λb o e T=>by obtain⟨Q,q⟩:=B.there b o e T;exact⟨Q,(hs.2 b (W b o e)).trans q⟩
  tups:=B.tups
  frzs:=B.frzs
  tbls:=B.tbls}
 refine I.call' (s':={s' with heap:=h2}) (ch:=ex) U.os u (λb o e=>?_) U.bare λb Y=>⟨(Z b Y).2.2.2.1,(Z b Y).2.1,(Z b Y).2.2.2.2.1,(Z b Y).2.2.2.2.2⟩;have S:∀b o,H' b=ar o->b≠C:=λb o e z=>by have hf:H' C=none:=U.free;rw[z,hf]at e;cases e
 refine(U.hok b o e).stay (λd v hd q=>?_) (λ_ q=>q) λ_ _ q=>q;refine(hs.2 d ?_).trans q;rcases hd with z|z
 ·subst z;exact S _ _ e
 ·exact S _ _ z
theorem qS{Q:VK}(G:Option (aC->Sem Unit))(Qr:aC->b_->Prop)(c:CompScope X scope Nc js)(hc:X.calm=cn)(hi:PI X tg iter wi)
  (b2:∀C ex s H,Inv X pins σ H s->(∀b∈ex,j7 X pins H b)->PG (aR X scope Nc C ex s H) tg g/\E2 (aR X scope Nc C ex s H) ifs tt/\PE (aR X scope Nc C ex s H) elt te)
  (I:Inv X pins σ H s) (h:zK wi js g tt te σ H Q)
  (E:∀p C s' S,Q (.ref p) S->(∀f,s_ C s'.heap f->Inv X pins σ S {s' with heap:=f})->(∃m,s'.heap.Ns C m)->j7 X pins S C->
   TR (fb X.prog X.w) X.A X.xe G Qr (.ref p) C (.ok .next) s')
  (hs:∀x,g_ iter X.env x=a_ x:=by intro _;rfl):
  ed (fb X.prog X.w) X.A (comprehension (.ListComp elt [⟨tg,iter,ifs,0⟩] scope pos) scope X.env pos' (Ue []) dt (hO iter X.env) G) Qr X.xe s:=by
 refine wpAny_comprehension_free rfl hs (iI scope X.env (c.has I.ok)) c.kind c.loc (dJ (hi pins s σ H _ I h) λv s1 F=>dJ F λd0 s2 f=>?_);obtain⟨it,Y,tn,J,U,e,I2,T,k,f2,hW⟩:=f;subst e;refine Od (tO λF P K L=>?_);dsimp only at P K L⊢;obtain⟨W,⟨m0,w0⟩,turn⟩:=hW s2.heap.objs.size (I2.hok.fresh (Nq _));have B:Inv X pins σ (upd U s2.heap.objs.size (.lst [])) {s2 with heap:=s2.heap.push {cls:=.type "list",dict:=none,data:=.seq ([]:List aC).toArray}}:=
  I2.laid (t':=s2.toks) (λ_ _ q=>Nm _ q) (Nq _) ⟨NN _,[],0,.nil,Nw _ rfl⟩
 generalize hS3:({s2 with heap:=s2.heap.push {cls:=.type "list",dict:=none,data:=.seq ([]:List aC).toArray}}:b_)=s3 at B;have e3:s3.heap=s2.heap.push {cls:=.type "list",dict:=none,data:=.seq ([]:List aC).toArray}:=by rw[<-hS3]
 rw[<-e3]at P K L⊢;generalize hp:s2.heap.objs.size=p at*;have j:∀b∈Y,b<p:=λb Z=>by obtain⟨o,e,_⟩:=T.obj _ _ k b Z;rw[<-hp];exact Nu e
 have a5:∀b∈Y,b≠p:=λb Z=>NB (j b Z);have a:∀b∈Y,j7 X pins (upd U p (.lst [])) b:=λb Z=>⟨by rw[aO (a5 b Z)];exact(f2 b Z).1,(f2 b Z).2⟩;have l:s3.heap.objs.size=p+1:=by rw[e3,OB,hp]
 have t:∀b∈Y,b<s3.heap.objs.size:=λb Z=>by rw[l];exact OC (j b Z)
 have R:∀b o,s3.heap.get? b=ar o->F.get? b=ar o:=K;have b0:tn 0 F:=T.keep _ _ _ k λb Z o e=>R b o (by rw[e3];exact Nm _ e);generalize hC:s3.heap.objs.size=C at*;have b1:F.Ns C (λ_=>none):=by simpa using P
 have start:∀tk,Inv (aR X scope Nc C Y s3 (upd U p (.lst []))) [] (oA js σ) (upd U p (.lst [])) {s3 with heap:=F,toks:=tk}:=λtk=>qR c B a (λb Z=>by rw[hC];exact t b Z) hC.symm b1 R L;have ok:=(start 0).ok;have O:∀{S:Hp},(∀b∈Y,S b=none)->∀b∈Y,j7 (aR X scope Nc C Y s3 (upd U p (.lst []))) [] S b:=λhn b Z=>
  ⟨hn b Z,(ok.exf b Z).1,ok.exfs b Z,.inl Z,(ok.exf b Z).2,λ_ z=>nomatch z⟩
 obtain⟨hG,hT,hE⟩:=b2 C Y s3 (upd U p (.lst [])) B a;have loop:∀s':b_,Inv (aR X scope Nc C Y s3 (upd U p (.lst []))) [] (oA js σ) (upd U p (.lst [])) s'->tn 0 s'.heap->
   t_ (fb X.prog X.w) X.A (.compLoop (.ListComp elt [⟨tg,iter,ifs,0⟩] scope pos) 0 (.ref it) (.ref p) (aR X scope Nc C Y s3 (upd U p (.lst []))).env) (TR (fb X.prog X.w) X.A X.xe G Qr (.ref p) C) s':=by
  intro s' I' b3;refine codeAny_loop rfl (λn s'=>∃i σ' S,Inv (aR X scope Nc C Y s3 (upd U p (.lst []))) [] σ' S s'/\tn i s'.heap/\(∀b∈Y,S b=none)/\W i n σ' S) ?_ m0 ⟨0,_,_,I',b3,λb Z=>(a b Z).1,w0⟩;rintro n s4 ⟨i,σ4,H4,I4,st4,fr4,w4⟩;show ed _ X.A ((Sv (.ListComp elt [⟨tg,iter,ifs,0⟩] scope pos) 0 (.ref it) (.ref p) (aR X scope Nc C Y s3 (upd U p (.lst []))).env).onRaise (λx=>do J_ x (aR X scope Nc C Y s3 (upd U p (.lst []))).env;theTreesLotGoes x)) _ _ s4;refine wpAny_noted ?_;rw[compTurn_list];refine Nk (Pa (Nk ?_));rcases turn i n σ4 H4 w4 with⟨stop,qn⟩|⟨go,N,hN,step⟩
  ·refine Oc (T.done (aR X scope Nc C Y s3 (upd U p (.lst []))) rfl rfl rfl hc i [] s4 σ4 H4 (λ_ _=>False) I4 (O fr4) st4 stop) (λr s5 ⟨hr,I5⟩=>?_) λ_ _ z=>z.elim;subst hr;refine Nr (E p C s5 H4 qn (λf a6=>v7 B hC.symm a I5 a6) ?_ (B.fpOk (P8 hC) I5.free));obtain⟨m,hm,_⟩:=I5.loc;exact⟨m,hm⟩
  ·refine Oc (T.item (aR X scope Nc C Y s3 (upd U p (.lst []))) rfl rfl rfl hc i [] s4 σ4 H4 (λ_ _=>False) I4 (O fr4) st4 go) (λr s5 ⟨u,hr,h5⟩=>?_) λ_ _ z=>z.elim;subst hr;refine Nk (Oc h5 (λ_ s6 ⟨x,H6,I6,r6,y6,st6,fr6⟩=>?_) λ_ _ z=>z.elim);have b4:=I6.pinned (O fr6) (T.obj _ _ st6);refine Nk (Oc (hG _ s6 σ4 H6 x u _ b4 r6 (step x H6 y6)) (λ_ s7 ⟨σ7,H7,I7,q7⟩=>?_) λ_ _ z=>z.elim);refine Nk (Oc (hT _ s7 σ7 H7 _ I7 q7) (λb s8 ⟨H8,I8,q8⟩=>?_) λ_ _ z=>z.elim);have RZ:∀{σ9:St} {H9:Hp} {s9:b_},Inv (aR X scope Nc C Y s3 (upd U p (.lst []))) ([]++ou Y s6.heap) σ9 H9 s9->N σ9 H9->
     ∃m,m<n/\∃i σ' S,Inv (aR X scope Nc C Y s3 (upd U p (.lst []))) [] σ' S s9/\tn i s9.heap/\(∀b∈Y,S b=none)/\W i m σ' S:=λ{σ9 H9 s9} I9 n9=>by
    obtain⟨m',hm,w9⟩:=hN σ9 H9 n9;refine⟨m',hm,i+1,σ9,H9,I9.unpinned,T.keep _ _ _ st6 λb Z o e=>(I9.pin (b,o) (NG _ (NG _ (gq Z e)))).1,λb Z=>?_,w9⟩;obtain⟨o,e,d⟩:=T.obj _ _ st6 b Z;exact(I9.pin (b,o) (NG _ (NG _ (gq Z e)))).2.1
   cases b with
   |false=>exact Nr ⟨rfl,RZ I8 q8⟩
   |true=>
    refine Nk (Nk (Oc (hE _ s8 σ7 H8 _ I8 q8) (λy s9 ⟨yv,H9,I9,r9,q9⟩=>?_) λ_ _ z=>z.elim));obtain⟨xs,hx,hl,n9⟩:=q9;refine Nk (Oc (lM (X:=aR X scope Nc C Y s3 (upd U p (.lst []))) _ s9 σ7 H9 (.ref p) [yv] (.ref p) [y] (λ_ S=>N σ7 S) I9 rfl (.cons r9 .nil) ⟨p,xs,yv,rfl,rfl,hx,hl,n9⟩) (λ_ s10 ⟨_,H10,I10,_,q10⟩=>?_) λ_ _ z=>z.elim);exact Nr (Nr ⟨rfl,RZ I10 q10⟩)
 refine codeAny_compStart_list (loop _ ?_ ?_) (T.self _ 0 _ _ _ ?_ (loop _ ?_ ?_))
 all_goals first
  |exact b0
  |(subst hS3;exact start _)
theorem Fv(c:CompScope X scope Nc js)(U:X.calm=cn)(S:PI X tg iter wi)
  (Z:∀C ex s H,PG (aR X scope Nc C ex s H) tg g/\E2 (aR X scope Nc C ex s H) ifs tt/\PE (aR X scope Nc C ex s H) elt te)
  (hs:∀x,g_ iter X.env x=a_ x:=by intro _;rfl):PE X (.ListComp elt [⟨tg,iter,ifs,0⟩] scope pos) (zK wi js g tt te):=by
 intro pins s σ H Q I h;rw[Sh];refine qS none _ c U S (λC ex s H _ _=>Z C ex s H) I h (λp C s' T q W P _=>?_) hs;obtain⟨m,hm⟩:=P;exact⟨m,hm,λR Y=>⟨.ref p,T,W R Y,rfl,q⟩⟩
theorem yf{pos:Pos}(F:X.N.Nodup)(U:X.N[i]? =ar x)(E:Loc X.env.scope x)
  (c:CompScope X scope Nc js) (P:X.calm=cn) (J:PI X tg iter wi)
  (W:∀C ex s H,PG (aR X scope Nc C ex s H) tg g/\E2 (aR X scope Nc C ex s H) ifs tt/\PE (aR X scope Nc C ex s H) elt te)
  (T:m_ (.ListComp elt [⟨tg,iter,ifs,0⟩] scope cpos) (ar (.Name x pos')) pos.line X.env=a_ true:=by rfl)
  (R:X.fn x=cn\/X.env.scope.names.lookup x=ar .local:=by first|exact .inl rfl|exact .inr rfl|assumption)
  (hs:∀x,g_ iter X.env x=a_ x:=by intro _;rfl):PS X (.Assign [.Name x pos'] (.ListComp elt [⟨tg,iter,ifs,0⟩] scope cpos) pos) (Hw (zK wi js g tt te) (Cn i)):=by
 intro pins s σ H D I h;rw[exec_Assign_Name_used _ _ _ _ T];refine Nk (Pa (Nk ?_));show ed _ X.A (do let _<-comprehension (.ListComp elt [⟨tg,iter,ifs,0⟩] scope cpos) scope X.env _ (Ue []) dt (hO iter X.env) (ar (RQ (.Name x pos') X.env))) _ _ s;refine Nk (dJ (qS (ar (RQ (.Name x pos') X.env)) (λ_ s'=>SP X pins D .next s') c P J (λC ex s H _ _=>W C ex s H) I h (λp C s' S q K G Z=>?_) hs) λ_ s' q=>Nr (Nr q));obtain⟨m,hm⟩:=G;have O:Inv X pins σ S s':=K s'.heap (.refl ..);refine wpAny_assign_Name (tE O F U E (v:=.ref p) rfl (λs'' I'' ⟨a,hsb,ha⟩=>?_) R);have L:C≠a:=by
  rcases ha with z|z
  ·rw[z];exact Z.2.1
  ·exact λe=>Z.2.2.2.2.1 x a z e.symm
 refine⟨m,hm.sameBut hsb L,λB Y=>?_⟩;exact⟨_,S,I''.turned (t':=s''.toks) (it:=C) (λb o Q e=>(Y.2 b Q).trans e) Z.1 Z.2.1 Z.2.2.2.1 Z.2.2.2.2.1 Z.2.2.2.2.2,q⟩
end
inductive D where
 |non|bl (b:Bool)|int (i:Int)|str (x:Str)|tup (ds:List D)|lst (k:Nat)|ro (ds:List D)|emp
 |fn (a c:bc) (q:Str) (ds:List D) (vs:List V)|exc (x:Str) (ds:List D)
 |fz (ds:List D)
abbrev az:=List (List D)
inductive Res(α:Type) where
 |ok (a:α)|ex (x:D)
def M(α:Type):=az->Option (Res α×az)
namespace M
def ret{α:Type}(a:α):M α:=λS=>ar (.ok a,S)
def bnd{α β:Type}(m:M α)(f:α->M β):M β:=λS=>match m S with
 |some (.ok a,S')=>f a S'
 |some (.ex x,S')=>ar (.ex x,S')
 |none=>none
def fail{α:Type}:M α:=λ_=>none
def raise{α:Type}(x:D):M α:=λS=>ar (.ex x,S)
noncomputable instance:Monad M where
 pure:=ret
 bind:=bnd
end M
def M7(K:c_)(a:bc)(xs:List V):Prop:=∃(o:Obj) (its:Array aC) (n:Nat),K.lookup a=ar o/\o.cls= .type "list"/\o.dict=none/\o.data= .seq its n/\its.size<=sizeLine/\bg xs its.toList
def E3(K:c_)(H:Hp)(a:bc)(vs:List V):Prop:=(∃o,H a=ar (.frz o (.lst vs)))\/M7 K a vs
theorem E3.sq{K:c_}{H:Hp}{a:bc}{vs:List V}(h:E3 K H a vs):kS K H a vs:=h.imp (λ⟨o,e⟩=>.inr ⟨o,e⟩) λz=>z
def sO(C a:bc)(od:Option bc):f'->Prop:=λh=>∃oe vs,h.get? a=ar oe/\oe.cls= .ref C/\oe.dict=od/\oe.data= .fields vs
def pR(qual:Str)(c:bc):f'->Prop:=λh=>h.CodeRec (.ref c) qual
def cu:List Str:=["law","_law_within_right","_law_refusals_right","_law_sharings_right","_law_right","_law_lists_right","_law_papers_right","_law_great_right","_law_told_right","_law_desks_right","_law_texts_right"]
def TabsOk(K:c_)(H:Hp):Prop:=∀x∈cu,∀c P,n7 K x=ar (c,P)->∃ps,H P=ar (.tbl ps)/\Tz ps.toList/\
 ∀pos cv,RM pos ps.toList=ar cv->∃c',cv= .ref c'/\H c'=ar (.ext (pR (x++".<locals>.<lambda>") c'))
theorem TabsOk.mono{K:c_}{H Z:Hp}(h:TabsOk K H)(k:∀a o,H a=ar o->(∀vs,o≠ .lst vs)->Z a=ar o):TabsOk K Z:=λx Y c P e=>
 let ⟨ps,h1,h2,h3⟩:=h x Y c P e
 ⟨ps,k _ _ h1 (by intro _ z;cases z),h2,λpos cv q=>let ⟨c',e1,e2⟩:=h3 pos cv q;⟨c',e1,k _ _ e2 (by intro _ z;cases z)⟩⟩
mutual
inductive RelD(K:c_)(ι:List bc)(H:Hp):D->V->Prop where
 |non:RelD K ι H .non .non
 |bl (b:Bool):RelD K ι H (.bl b) (.bl b)
 |int (i:Int):RelD K ι H (.int i) (.int i)
 |str (x:Str):RelD K ι H (.str x) (.str x)
 |tup {a:bc} {ds:List D} {vs:List V}:H a=ar (.tup vs)->RelDs K ι H ds vs->RelD K ι H (.tup ds) (.ref a)
 |lst {a:bc} {k:Nat}:ι[k]? =ar a->RelD K ι H (.lst k) (.ref a)
 |ro {a:bc} {ds:List D} {vs:List V}:E3 K H a vs->RelDs K ι H ds vs->RelD K ι H (.ro ds) (.ref a)
 |emp {a:bc}:H a=ar (.dK [])->RelD K ι H .emp (.ref a)
 |fn {a c:bc} {q:Str} {ds:List D} {vs:List V}:H c=ar (.ext (pR q c))->RelDs K ι H ds vs->RelD K ι H (.fn a c q ds vs) (.ref a)
 |exc {a C:bc} {x:Str}:z5 K gd x=ar (ar (.ref C))->H a=ar (.ext (sO C a none))->RelD K ι H (.exc x []) (.ref a)
 |excF {a C dx:bc} {x:Str} {fs:List (Str×V)} {ds:List D}:z5 K gd x=ar (ar (.ref C))->H a=ar (.ext (sO C a (ar dx)))->H dx=ar (.xd fs)->fs.map (·.1)=([("many":Str),("most":Str)]:List Str)->RelDs K ι H ds (fs.map (·.2))->RelD K ι H (.exc x ds) (.ref a)
 |fz {a:bc} {o:Obj} {ds:List D} {vs:List V}:H a=ar (.frz o (.lst vs))->RelDs K ι H ds vs->RelD K ι H (.fz ds) (.ref a)
inductive RelDs(K:c_)(ι:List bc)(H:Hp):List D->List V->Prop where
 |nil:RelDs K ι H [] []
 |cons {d:D} {v:V} {ds:List D} {vs:List V}:RelD K ι H d v->RelDs K ι H ds vs->RelDs K ι H (d::ds) (v::vs)
end
structure Rep(K:c_)(ι:List bc)(H:Hp)(S:az):Prop where
 nd:ι.Nodup
 len:ι.length=S.length
 get:∀(k:Nat) (a:bc) (xs:List D),ι[k]? =ar a->S[k]? =ar xs->∃vs,H a=ar (.lst vs)/\RelDs K ι H xs vs
 tab:TabsOk K H
structure Ext(ι:List bc)(H:Hp)(ι':List bc)(H':Hp):Prop where
 ids:∃more,ι'=ι++more
 oth:∀a o,H a=ar o->a∉ι->(∀ps,o≠ .tbl ps)->H' a=ar o/\a∉ι'
structure ExtN(ι:List bc)(H:Hp)(ι':List bc)(H':Hp):Prop where
 ids:∃more,ι'=ι++more
 oth:∀a o,H a=ar o->a∉ι->(∀ps,o≠ .tbl ps)->(∀vs,o≠ .lst vs)->H' a=ar o/\a∉ι'
theorem Ext.n{ι Z:List bc}{H Y:Hp}(e:Ext ι H Z Y):ExtN ι H Z Y:=⟨e.ids,λa o h n t _=>e.oth a o h n t⟩
theorem Ext.refl{ι:List bc}{H:Hp}:Ext ι H ι H:=⟨⟨[],by simp⟩,λ_ _ h n _=>⟨h,n⟩⟩
theorem Ext.trans{ι Y Z:List bc}{H X W:Hp}(a:Ext ι H Y X)(b:Ext Y X Z W):Ext ι H Z W:=by obtain⟨T,e1⟩:=a.ids;obtain⟨U,e2⟩:=b.ids;exact⟨⟨T++U,by rw[e2,e1,ND]⟩,λc o h n t=>let ⟨h1,n1⟩:=a.oth c o h n t;b.oth c o h1 n1 t⟩
theorem ExtN.at{ι Z:List bc}{H Y:Hp}(e:ExtN ι H Z Y){k:Nat}{a:bc}(h:ι[k]? =ar a):Z[k]? =ar a:=by obtain⟨m,rfl⟩:=e.ids;have X:k<ι.length:=(Nt.mp h).1;rw[NZ X];exact h
section
variable {K:c_}{ι ι':List bc}{H H':Hp}{S:az}
theorem Rep.isL(r:Rep K ι H S)(h:a∈ι):∃vs,H a=ar (.lst vs):=by
 obtain⟨k,Y,e⟩:=List.mem_iff_getElem.mp h;have Z:k<S.length:=by rw[<-r.len];exact Y
 obtain⟨vs,X,_⟩:=r.get k a (S[k]) (by rw[Np Y,e]) (Np Z);exact⟨vs,X⟩
theorem Rep.notIn(r:Rep K ι H S)(h:H a=ar o)(Z:∀vs,o≠ .lst vs):a∉ι:=λz=>by obtain⟨vs,e⟩:=r.isL z;rw[h]at e;exact Z vs (NP e)
theorem Rep.free(r:Rep K ι H S)(h:H a=none):a∉ι:=λz=>by obtain⟨vs,e⟩:=r.isL z;rw[h]at e;cases e
mutual
theorem RelD.laterN(r:Rep K ι H S)(e:ExtN ι H ι' H'):∀{d:D} {v:V},RelD K ι H d v->RelD K ι' H' d v
 |_,_,.non=>.non
 |_,_,.bl b=>.bl b
 |_,_,.int i=>.int i
 |_,_,.str x=>.str x
 |_,_,.tup h hs=>.tup (e.oth _ _ h (r.notIn h (by intro _ z;cases z)) (by intro _ z;cases z) (by intro _ z;cases z)).1 (RelDs.laterN r e hs)
 |_,_,.lst h=>.lst (e.at h)
 |_,_,.ro h hs=>.ro (h.imp (λ⟨o,h⟩=>⟨o,(e.oth _ _ h (r.notIn h (by intro _ z;cases z)) (by intro _ z;cases z) (by intro _ z;cases z)).1⟩) λz=>z) (RelDs.laterN r e hs)
 |_,_,.emp h=>.emp (e.oth _ _ h (r.notIn h (by intro _ z;cases z)) (by intro _ z;cases z) (by intro _ z;cases z)).1
 |_,_,.fn h hs=>.fn (e.oth _ _ h (r.notIn h (by intro _ z;cases z)) (by intro _ z;cases z) (by intro _ z;cases z)).1 (RelDs.laterN r e hs)
 |_,_,.exc n h=>.exc n (e.oth _ _ h (r.notIn h (by intro _ z;cases z)) (by intro _ z;cases z) (by intro _ z;cases z)).1
 |_,_,.excF n h h2 hn hs=>.excF n (e.oth _ _ h (r.notIn h (by intro _ z;cases z)) (by intro _ z;cases z) (by intro _ z;cases z)).1 (e.oth _ _ h2 (r.notIn h2 (by intro _ z;cases z)) (by intro _ z;cases z) (by intro _ z;cases z)).1 hn (RelDs.laterN r e hs)
 |_,_,.fz h hs=>.fz (e.oth _ _ h (r.notIn h (by intro _ z;cases z)) (by intro _ z;cases z) (by intro _ z;cases z)).1 (RelDs.laterN r e hs)
theorem RelDs.laterN(r:Rep K ι H S)(e:ExtN ι H ι' H'):∀{ds:List D} {vs:List V},RelDs K ι H ds vs->RelDs K ι' H' ds vs
 |_,_,.nil=>.nil
 |_,_,.cons h hs=>.cons (RelD.laterN r e h) (RelDs.laterN r e hs)
end
theorem RelD.later(r:Rep K ι H S)(e:Ext ι H ι' H'){d:D}{v:V}(h:RelD K ι H d v):RelD K ι' H' d v:=RelD.laterN r e.n h
theorem RelDs.later(r:Rep K ι H S)(e:Ext ι H ι' H'){ds:List D}{vs:List V}(h:RelDs K ι H ds vs):RelDs K ι' H' ds vs:=RelDs.laterN r e.n h
theorem RelDs.length:∀{ds:List D} {vs:List V},RelDs K ι H ds vs->ds.length=vs.length
 |_,_,.nil=>rfl
 |_,_,.cons _ t=>by rw[NU,NU,RelDs.length t]
theorem RelDs.append:∀{ds es:List D} {vs ws:List V},RelDs K ι H ds vs->RelDs K ι H es ws->RelDs K ι H (ds++es) (vs++ws)
 |_,_,_,_,.nil,s=>s
 |_,_,_,_,.cons r t,s=>.cons r (RelDs.append t s)
theorem RelDs.get':∀{ds:List D} {vs:List V} {i:Nat} {d:D},RelDs K ι H ds vs->ds[i]? =ar d->∃v,vs[i]? =ar v/\RelD K ι H d v
 |_,_,_,_,.nil,e=>by simp at e
 |_,_,0,_,.cons r _,e=>by simp at e;subst e;exact⟨_,rfl,r⟩
 |_,_,i+1,v,.cons _ t,e=>by
  obtain⟨u,Z,Y⟩:=RelDs.get' (i:=i) t (by simpa using e);exact⟨u,by simpa using Z,Y⟩
theorem RelDs.take:∀{ds:List D} {vs:List V} (n:Nat),RelDs K ι H ds vs->RelDs K ι H (ds.take n) (vs.take n)
 |_,_,0,_=>.nil
 |_,_,_+1,.nil=>.nil
 |_,_,n+1,.cons r t=>.cons r (RelDs.take n t)
theorem RelDs.drop:∀{ds:List D} {vs:List V} (n:Nat),RelDs K ι H ds vs->RelDs K ι H (ds.drop n) (vs.drop n)
 |_,_,0,r=>r
 |_,_,_+1,.nil=>.nil
 |_,_,n+1,.cons _ t=>RelDs.drop n t
theorem RelDs.set(r:RelD K ι H d v):∀{ds:List D} {vs:List V} (i:Nat),RelDs K ι H ds vs->RelDs K ι H (ds.set i d) (vs.set i v)
 |_,_,_,.nil=>.nil
 |_,_,0,.cons _ t=>.cons r t
 |_,_,i+1,.cons q t=>.cons q (RelDs.set r i t)
theorem RelDs.eraseIdx:∀{ds:List D} {vs:List V} (i:Nat),RelDs K ι H ds vs->RelDs K ι H (ds.eraseIdx i) (vs.eraseIdx i)
 |_,_,_,.nil=>.nil
 |_,_,0,.cons _ t=>t
 |_,_,i+1,.cons q t=>.cons q (RelDs.eraseIdx i t)
theorem fU(Z:H p=none):Ext ι H ι (upd H p o):=⟨⟨[],by simp⟩,λa Y h n _=>⟨by rw[aO (aM h Z)];exact h,n⟩⟩
theorem iJ{p:bc}{o:HO}(r:Rep K ι H S)(Z:H p=none):Rep K ι (upd H p o) S:=by refine⟨r.nd,r.len,λk a xs e1 e2=>?_,r.tab.mono λb o h _=>by rw[aO (aM h Z)];exact h⟩;obtain⟨vs,Y,X⟩:=r.get k a xs e1 e2;exact⟨vs,by rw[aO (aM Y Z)];exact Y,RelDs.later r (fU Z) X⟩
theorem v8(Z:H p=none):Ext ι H (ι++[p]) (upd H p o):=⟨⟨[p],rfl⟩,λa Y h n _=>⟨by rw[aO (aM h Z)];exact h,by have:a≠p:=aM h Z;simp[n,this]⟩⟩
theorem CM{p:bc}{xs:List D}{vs:List V}(r:Rep K ι H S)(Z:H p=none)(h:RelDs K ι H xs vs):Rep K (ι++[p]) (upd H p (.lst vs)) (S++[xs]):=by
 have U:Ext ι H (ι++[p]) (upd H p (.lst vs)):=v8 Z;refine⟨?_,by simp[r.len],λk a ys e1 e2=>?_,r.tab.mono λb o h _=>by rw[aO (aM h Z)];exact h⟩
 ·rw[Rc];refine⟨r.nd,by simp,λa R b T=>?_⟩;have:b=p:=by simpa using T
  subst this;rintro rfl;exact r.free Z R
 ·by_cases hk:k<ι.length
  ·rw[NZ hk]at e1;rw[NZ (by rw[<-r.len];exact hk)]at e2;obtain⟨ws,X,Q⟩:=r.get k a ys e1 e2;exact⟨ws,by rw[aO (aM X Z)];exact X,RelDs.later r U Q⟩
  ·have Y:k<(ι++[p]).length:=(Nt.mp e1).1;have:k=ι.length:=by simp at Y;omega
   subst this;simp at e1;rw[r.len]at e2;simp at e2;subst e1 e2;exact⟨vs,a8,RelDs.later r U h⟩
theorem qT:∀{l:List bc} {i j:Nat} {a:bc},l.Nodup->l[i]? =ar a->l[j]? =ar a->i=j
 |[],i,j,a,_,h,_=>by simp at h
 |x::r,0,0,a,_,_,_=>rfl
 |x::r,0,j+1,a,hn,h1,h2=>by
  simp at h1 h2;subst h1;exact absurd (N4 h2) (Ol.mp hn).1
 |x::r,i+1,0,a,hn,h1,h2=>by
  simp at h1 h2;subst h2;exact absurd (N4 h1) (Ol.mp hn).1
 |x::r,i+1,j+1,a,hn,h1,h2=>by
  simp at h1 h2;rw[qT (Ol.mp hn).2 h1 h2]
theorem uF(Z:a∈ι):Ext ι H ι (upd H a o):=⟨⟨[],by simp⟩,λb Y h n _=>⟨by rw[aO (λz=>n (by rw[z];exact Z))];exact h,n⟩⟩
theorem uG{a:bc}{k:Nat}{xs:List D}{vs:List V}(r:Rep K ι H S)(Z:ι[k]? =ar a)(h:RelDs K ι H xs vs):Rep K ι (upd H a (.lst vs)) (S.set k xs):=by
 have Y:a∈ι:=N4 Z;have X:Ext ι H ι (upd H a (.lst vs)):=uF Y;refine⟨r.nd,by simp[r.len],λj b ys e1 e2=>?_,r.tab.mono λb o h n=>by obtain⟨ws,hw⟩:=r.isL Y;rw[aO (λz=>by subst z;rw[h]at hw;exact n ws (NP hw))];exact h⟩
 by_cases hj:j=k
 ·subst hj;rw[Z]at e1;cases e1;have Q:j<S.length:=by rw[<-r.len];exact(Nt.mp Z).1
  rw[NO Q]at e2;cases e2;exact⟨vs,a8,RelDs.later r X h⟩
 ·rw[Ou (k_ hj)]at e2;obtain⟨ws,T,R⟩:=r.get j b ys e1 e2;have U:b≠a:=by
   rintro rfl;exact hj (qT r.nd e1 Z)
  exact⟨ws,by rw[aO U];exact T,RelDs.later r X R⟩
end
abbrev XD:=D->List bc->az->Hp->Prop
def cont(K:c_)(E:XD){α:Type}(c:M α)(ι:List bc)(S:az)(H:Hp)(Q:α->List bc->az->Hp->Prop):Prop:=
 ∃r S',c S=ar (r,S')/\∀ ι' H',Ext ι H ι' H'->Rep K ι' H' S'->match r with
  | .ok a=>Q a ι' S' H'
  | .ex x=>E x ι' S' H'
section
variable {K:c_}{E:XD}{ι:List bc}{S:az}{H:Hp}{α β:Type}
theorem ai{c:M α}{f:α->M β}{Q:β->List bc->az->Hp->Prop}(h:cont K E (c>>=f) ι S H Q):cont K E c ι S H (λa Z S1 X=>cont K E (f a) Z S1 X Q):=by
 obtain⟨r,R,e,k⟩:=h;have Y:M.bnd c f S=ar (r,R):=e;unfold M.bnd at Y;cases q:c S with
 |none=>rw[q]at Y;cases Y
 | some p=>
  obtain⟨O,S1⟩:=p;rw[q]at Y;cases O with
  |ok a=>exact⟨.ok a,S1,q,λZ X U rep1=>⟨r,R,Y,λT P N rep2=>k T P (U.trans N) rep2⟩⟩
  |ex x=>
   cases Y;exact⟨.ex x,_,q,λZ X U rep1=>k Z X U rep1⟩
theorem aw{c:M α}{Q X:α->List bc->az->Hp->Prop}(h:cont K E c ι S H Q)(k:∀a ι' Z H',Ext ι H ι' H'->Rep K ι' H' Z->Q a ι' Z H'->X a ι' Z H'):cont K E c ι S H X:=by
 obtain⟨r,Z,e,q⟩:=h;refine⟨r,Z,e,λY T U rep1=>?_⟩;have:=q Y T U rep1;cases r with
 |ok a=>exact k a Y Z T U rep1 this
 |ex x=>exact this
theorem aq{a:α}{Q:α->List bc->az->Hp->Prop}(h:cont K E (a_ a) ι S H Q){Z:List bc}{Y:Hp}(x:Ext ι H Z Y)(r:Rep K Z Y S):Q a Z S Y:=by obtain⟨U,X,e,q⟩:=h;cases e;exact q Z Y x r
theorem ah{Q:α->List bc->az->Hp->Prop}(h:cont K E (M.fail) ι S H Q):False:=by obtain⟨Z,Y,e,q⟩:=h;cases e
end
abbrev aF:=List (Option D)
inductive RelE(K:c_)(ι:List bc)(H:Hp):aF->St->Prop where
 |nil:RelE K ι H [] []
 |cons {o:Option D} {u:Option V} {ρ:aF} {σ:St}:(∀d,o=ar d->∃v,u=ar v/\RelD K ι H d v)->RelE K ι H ρ σ->RelE K ι H (o::ρ) (u::σ)
section
variable {K:c_}{ι ι':List bc}{S:az}{H H':Hp}
theorem RelE.later(r:Rep K ι H S)(e:Ext ι H ι' H'):∀{ρ:aF} {σ:St},RelE K ι H ρ σ->RelE K ι' H' ρ σ
 |_,_,.nil=>.nil
 |_,_,.cons h t=>.cons (λd z=>let ⟨v,e1,e2⟩:=h d z;⟨v,e1,RelD.later r e e2⟩) (RelE.later r e t)
theorem RelE.get:∀{ρ:aF} {σ:St} {i:Nat} {d:D},RelE K ι H ρ σ->ρ[i]? =ar (ar d)->∃v,σ[i]? =ar (ar v)/\RelD K ι H d v
 |_,_,_,_,.nil,e=>by simp at e
 |_,_,0,_,.cons h _,e=>by
  simp at e;obtain⟨v,e1,e2⟩:=h _ e;exact⟨v,by simp[e1],e2⟩
 |_,_,i+1,_,.cons _ t,e=>by
  obtain⟨v,Z,Y⟩:=RelE.get (i:=i) t (by simpa using e);exact⟨v,by simpa using Z,Y⟩
theorem RelE.set(r:RelD K ι H d v):∀{ρ:aF} {σ:St} (i:Nat),RelE K ι H ρ σ->RelE K ι H (ρ.set i (ar d)) (σ.set i (ar v))
 |_,_,_,.nil=>.nil
 |_,_,0,.cons _ t=>.cons (λd' z=>by cases z;exact⟨v,rfl,r⟩) t
 |_,_,i+1,.cons q t=>.cons q (RelE.set r i t)
theorem RelE.start:∀{ds:List D} {vs:List V},RelDs K ι H ds vs->∀n,RelE K ι H (ds.map ar++ey n none) (vs.map ar++ey n none)
 |_,_,.nil,n=>by
  induction n with
  |zero=>exact .nil
  |succ n ih=>exact .cons (λd z=>by cases z) ih
 |_,_,.cons r t,n=>.cons (λd z=>by cases z;exact⟨_,rfl,r⟩) (RelE.start t n)
end
abbrev TM:=aF->M D
def mz(K:c_)(Q:VK):D->List bc->az->Hp->Prop:=λd ι' _ H'=>∀v,RelD K ι' H' d v->Q v H'
def tM(K:c_)(E:XD)(m:TM):TE:=λσ H Q=>∃ ι S ρ,Rep K ι H S/\RelE K ι H ρ σ/\cont K E (m ρ) ι S H (mz K Q)
def SE(X:Cx)(E:XD)(e:Expr)(m:TM):Prop:=PE X e (tM X.K E m)
def yg(K:c_)(E:XD)(m:aF->M Bool):TT:=λσ H Q=>∃ ι S ρ,Rep K ι H S/\RelE K ι H ρ σ/\cont K E (m ρ) ι S H (λb _ _ H'=>Q b H')
def SB(X:Cx)(E:XD)(e:Expr)(m:aF->M Bool):Prop:=PT X e (yg X.K E m)
def HV(X:Cx)(E:XD)(e:Expr)(m:aF->M Bool):Prop:=PW X e (yg X.K E m)
def Mq(K:c_)(E:XD)(m:aF->M (List D)):TA:=λσ H Q=>∃ ι S ρ,Rep K ι H S/\RelE K ι H ρ σ/\cont K E (m ρ) ι S H (λds ι' _ H'=>∀vs,RelDs K ι' H' ds vs->Q vs H')
def SA(X:Cx)(E:XD)(es:List Expr)(m:aF->M (List D)):Prop:=PA X es (Mq X.K E m)
inductive Out where
 |nx (ρ:aF)|ret (d:D)|bk (ρ:aF)|ct (ρ:aF)
abbrev cw:=aF->M Out
def E4(K:c_)(T:Ends):Out->List bc->az->Hp->Prop:=λo ι' _ H'=>match o with
 | .nx ρ=>∀ σ,RelE K ι' H' ρ σ->T.nx σ H'
 | .ret d=>∀v,RelD K ι' H' d v->T.rt v H'
 | .bk ρ=>∀ σ,RelE K ι' H' ρ σ->T.bk σ H'
 | .ct ρ=>∀ σ,RelE K ι' H' ρ σ->T.ct σ H'
def LC(K:c_)(E:XD)(m:cw):TS:=λT σ H=>∃ ι S ρ,Rep K ι H S/\RelE K ι H ρ σ/\cont K E (m ρ) ι S H (E4 K T)
def SS(X:Cx)(E:XD)(st:p_)(m:cw):Prop:=PS X st (LC X.K E m)
def sP(X:Cx)(E:XD)(st:List p_)(m:cw):Prop:=qH X st (LC X.K E m)
abbrev mw:=D->aF->M aF
def Ce(K:c_)(E:XD)(m:mw):TG:=λv σ H Q=>∃ ι S ρ d,Rep K ι H S/\RelE K ι H ρ σ/\RelD K ι H d v/\cont K E (m d ρ) ι S H (λρ' ι' _ H'=>∀ σ',RelE K ι' H' ρ' σ'->Q σ' H')
def SG(X:Cx)(E:XD)(tg:Expr)(m:mw):Prop:=PG X tg (Ce X.K E m)
theorem PE.imp{X:Cx}{e:Expr}{t t':TE}(h:PE X e t)(k:∀ σ H Q,t' σ H Q->t σ H Q):PE X e t':=λpins s σ H Q I hw=>h pins s σ H Q I (k σ H Q hw)
theorem PT.imp{X:Cx}{e:Expr}{t t':TT}(h:PT X e t)(k:∀ σ H Q,t' σ H Q->t σ H Q):PT X e t':=λpins s σ H Q I hw=>h pins s σ H Q I (k σ H Q hw)
theorem PW.imp{X:Cx}{e:Expr}{t t':TT}(h:PW X e t)(k:∀ σ H Q,t' σ H Q->t σ H Q):PW X e t':=λZ pins s σ H Q I hw=>h Z pins s σ H Q I (k σ H Q hw)
theorem PA.imp{X:Cx}{e:List Expr}{t t':TA}(h:PA X e t)(k:∀ σ H Q,t' σ H Q->t σ H Q):PA X e t':=λpos pins s σ H Q I hw=>h pos pins s σ H Q I (k σ H Q hw)
theorem PS.imp{X:Cx}{e:p_}{t t':TS}(h:PS X e t)(k:∀D σ H,t' D σ H->t D σ H):PS X e t':=λpins s σ H D I hw=>h pins s σ H D I (k D σ H hw)
theorem qH.imp{X:Cx}{e:List p_}{t t':TS}(h:qH X e t)(k:∀D σ H,t' D σ H->t D σ H):qH X e t':=λpins s σ H D I hw=>h pins s σ H D I (k D σ H hw)
theorem PG.imp{X:Cx}{e:Expr}{t t':TG}(h:PG X e t)(k:∀v σ H Q,t' v σ H Q->t v σ H Q):PG X e t':=λpins s σ H v u Q I r hw=>h pins s σ H v u Q I r (k v σ H Q hw)
section
variable {X:Cx}{E:XD}{a b e:Expr}{m n:TM}{pos:Pos}
def HW(ρ:aF)(i:Nat):M D:=match ρ[i]? with
 |some (ar d)=>a_ d
 |_=>M.fail
theorem ae(i:Nat)(U:X.N[i]? =ar x:=by rfl)(W:GT X.env.scope x:=by first|exact K_ rfl|exact y7 (K_ rfl)|exact y7 (y7 rfl))(Z:(x==("__debug__":Str))=false:=by decide)
  (Y:(x==("__classdict__":Str))=false:=by decide):SE X E (.Name x pos) (λρ=>HW ρ i):=by
 refine PE.imp (mM U W Z Y) λσ H Q h=>?_;obtain⟨ι,S,ρ,rep,re,c⟩:=h;unfold HW at c;dsimp only at c;split at c
 ·next d Z=>
  obtain⟨v,e1,e2⟩:=re.get Z;exact⟨v,e1,aq c .refl rep v e2⟩
 ·exact(ah c).elim
theorem kY(h:PE X e (tC v))(Z:∀ ι H,RelD X.K ι H d v):SE X E e (λ_=>a_ d):=by refine PE.imp h λσ H Q h=>?_;obtain⟨ι,S,ρ,rep,re,c⟩:=h;exact aq c .refl rep v (Z _ _)
theorem ay{j}:SE X E (.Constant (.int i) j pos) (λ_=>a_ (.int i)):=kY Ck λ_ _=>.int i
theorem i3{j}:SE X E (.Constant (.bool i) j pos) (λ_=>a_ (.bl i)):=kY J1 λ_ _=>.bl i
theorem mQ{j}:SE X E (.Constant .none j pos) (λ_=>a_ .non):=kY Hj λ_ _=>.non
theorem qU{j}:SE X E (.Constant (.str x) j pos) (λ_=>a_ (.str x)):=kY Hk λ_ _=>.str x
theorem Fw(Z:Gl X x)(W:X.mg x=ar (.int i t))(Y:(x==("__debug__":Str))=false:=by decide):SE X E (.Name x pos) (λ_=>a_ (.int i)):=
 kY (zx Z W (v:=.int i) ⟨t,rfl⟩ Y) λ_ _=>.int i
def tP(K:c_)(E:XD)(f:D->D->M D)(r:R2):Prop:=
 ∀ ι S H d1 d2 v1 v2 Q,Rep K ι H S->RelD K ι H d1 v1->RelD K ι H d2 v2->cont K E (f d1 d2) ι S H (mz K Q)->r v1 v2 H Q
theorem Fx(W:tP X.K E f r)(h:tM X.K E (λρ=>do let x<-m ρ;let y<-n ρ;f x y) σ H Q):JN r (tM X.K E m) (tM X.K E n) σ H Q:=by obtain⟨ι,S,ρ,rep,re,c⟩:=h;refine⟨ι,S,ρ,rep,re,aw (ai c) λx Z S1 O e1 rep1 c1 v1 R=>?_⟩;refine⟨Z,S1,ρ,rep1,re.later rep e1,aw (ai c1) λy Y S2 T e2 rep2 P v2 U=>?_⟩;exact W Y S2 T x y v1 v2 Q rep2 (R.later rep1 e2) U P
theorem qV(h:jS X (u0 op) r)(Y:tP X.K E f r)(W:SE X E a m)(Z:SE X E b n):SE X E (.BinOp a op b pos) (λρ=>do let x<-m ρ;let y<-n ρ;f x y):=
 PE.imp (Ke h W Z) λ_ _ _ q=>Fx Y q
theorem yh(h:jS X (kr op) r)(W:tP X.K E f r)(U:SE X E a m)(Y:SE X E b n)(Z:mh op b=false:=by first|exact qI _ (by decide) (by decide)|rfl):
  SE X E (.Compare a [op] [b] pos) (λρ=>do let x<-m ρ;let y<-n ρ;f x y):=
 PE.imp (Fj h U Y Z) λ_ _ _ q=>Fx W q
theorem Ku(h:E1 X r)(Z:tP X.K E f r)(W:SE X E a m)(Y:SE X E b n)(hs:uw b:=by intro _ _;rfl):SE X E (.Subscript a b pos) (λρ=>do let x<-m ρ;let y<-n ρ;f x y):=
 PE.imp (Ko h W Y hs) λ_ _ _ q=>Fx Z q
end
def lim:Nat:=10000000
theorem ik:lim<=sizeLine:=by rw[OI];decide
theorem CN:lim<sizeLine:=by rw[OI];decide
section
variable {K:c_}{ι:List bc}{H:Hp}
theorem RelD.bl_inv(h:RelD K ι H (.bl b) v):v= .bl b:=by cases h;rfl
theorem RelD.int_inv(h:RelD K ι H (.int b) v):v= .int b:=by cases h;rfl
theorem RelD.str_inv(h:RelD K ι H (.str b) v):v= .str b:=by cases h;rfl
theorem RelD.non_inv(h:RelD K ι H .non v):v= .non:=by cases h;rfl
theorem RelD.tup_inv(h:RelD K ι H (.tup ds) v):∃a vs,v= .ref a/\H a=ar (.tup vs)/\RelDs K ι H ds vs:=by
 cases h with
 |tup h1 h2=>exact⟨_,_,rfl,h1,h2⟩
theorem RelD.lst_inv(h:RelD K ι H (.lst k) v):∃a,v= .ref a/\ι[k]? =ar a:=by
 cases h with
 |lst h1=>exact⟨_,rfl,h1⟩
theorem RelD.ro_inv(h:RelD K ι H (.ro ds) v):∃a vs,v= .ref a/\E3 K H a vs/\RelDs K ι H ds vs:=by
 cases h with
 |ro h1 h2=>exact⟨_,_,rfl,h1,h2⟩
theorem RelD.fz_inv(h:RelD K ι H (.fz ds) v):∃a o vs,v= .ref a/\H a=ar (.frz o (.lst vs))/\RelDs K ι H ds vs:=by
 cases h with
 |fz h1 h2=>exact⟨_,_,_,rfl,h1,h2⟩
theorem RelDs.nil_inv(h:RelDs K ι H [] vs):vs=[]:=by cases h;rfl
theorem RelDs.cons_inv(h:RelDs K ι H (d::ds) vs):∃v ws,vs=v::ws/\RelD K ι H d v/\RelDs K ι H ds ws:=by
 cases h with
 |cons h1 h2=>exact⟨_,_,rfl,h1,h2⟩
end
def kQ:D->M Bool
 | .bl b=>a_ b
 |_=>M.fail
def getL(k:Nat):M (List D):=λS=>(S[k]?).bind λxs=>ar (.ok xs,S)
def bx(ds:List D):M D:=λS=>if ds.length<=lim then ar (.ok (.lst S.length),S++[ds])else none
def mx(k:Nat)(ds:List D):M D:=λS=>if ds.length<=lim/\k<S.length then ar (.ok .non,S.set k ds)else none
def bP(ds:List D):M D:=if ds.length<=lim then a_ (.tup ds)else M.fail
section
variable {K:c_}{E:XD}{ι:List bc}{S:az}{H:Hp}{α:Type}
theorem uH{f:Bool->M α}(Z:Rep K ι H S)(r:RelD K ι H x v)(c:cont K E (kQ x>>=f) ι S H Q):∃b,v= .bl b/\x= .bl b/\cont K E (f b) ι S H Q:=by
 cases x with
 |bl b=>exact⟨b,r.bl_inv,rfl,aq (ai c) .refl Z⟩
 |_=>exact(ah (ai c)).elim
theorem nG{Q:Bool->List bc->az->Hp->Prop}(Z:Rep K ι H S)(r:RelD K ι H x v)(c:cont K E (kQ x) ι S H Q):∃b,v= .bl b/\x= .bl b/\Q b ι S H:=by
 cases x with
 |bl b=>exact⟨b,r.bl_inv,rfl,aq c .refl Z⟩
 |_=>exact(ah c).elim
theorem A8{Q:D->List bc->az->Hp->Prop}(c:cont K E (bx ds) ι S H Q)(Z:Rep K ι H S)(r:RelDs K ι H ds vs):
  vs.length<=lim/\∀p,H p=none->Q (.lst S.length) (ι++[p]) (S++[ds]) (upd H p (.lst vs)):=by
 obtain⟨U,X,e,q⟩:=c;unfold bx at e;split at e
 ·next hl=>
  cases e;exact⟨by rw[<-r.length];exact hl,λp Y=>q _ _ (v8 Y) (CM Z Y r)⟩
 ·cases e
theorem CO(Z:Rep K ι H S):RelD K (ι++[p]) H' (.lst S.length) (.ref p):=.lst (by rw[<-Z.len];simp)
theorem bW{Q:VK}(c:cont K E (bx ds) ι S H (mz K Q))(Z:Rep K ι H S)(r:RelDs K ι H ds vs):vs.length<=lim/\∀p,H p=none->Q (.ref p) (upd H p (.lst vs)):=
 let ⟨h1,h2⟩:=A8 c Z r
 ⟨h1,λp Y=>h2 p Y _ (CO Z)⟩
theorem i4{Q:VK}(c:cont K E (bP ds) ι S H (mz K Q))(Z:Rep K ι H S)(r:RelDs K ι H ds vs):vs.length<=lim/\∀p,H p=none->Q (.ref p) (upd H p (.tup vs)):=by
 unfold bP at c;split at c
 ·next hl=>
  refine⟨by rw[<-r.length];exact hl,λp Y=>?_⟩;exact aq c (fU Y) (iJ Z Y) _ (.tup a8 (r.later Z (fU Y)))
 ·exact(ah c).elim
theorem kb{Q:VK}(c:cont K E (bP ds) ι S H (mz K Q))(Z:Rep K ι H S)(h:H a=ar (.tup vs))(r:RelDs K ι H ds vs):Q (.ref a) H:=by
 unfold bP at c;split at c
 ·exact aq c .refl Z _ (.tup h r)
 ·exact(ah c).elim
theorem bh{f:List D->M α}(c:cont K E (getL k>>=f) ι S H Q)(Z:Rep K ι H S)(U:ι[k]? =ar a):
  ∃ds vs,S[k]? =ar ds/\H a=ar (.lst vs)/\RelDs K ι H ds vs/\cont K E (f ds) ι S H Q:=by
 obtain⟨R,T,e,q⟩:=ai c;unfold getL at e;cases z:S[k]? with
 |none=>rw[z]at e;cases e
 |some ds=>
  rw[z]at e;cases e;obtain⟨vs,X,Y⟩:=Z.get k a ds U z;exact⟨ds,vs,rfl,X,Y,q ι H .refl Z⟩
theorem jV{Q:D->List bc->az->Hp->Prop}(c:cont K E (mx k ds) ι S H Q)(Z:Rep K ι H S)(Y:ι[k]? =ar a)(r:RelDs K ι H ds vs):
  vs.length<=lim/\Q .non ι (S.set k ds) (upd H a (.lst vs)):=by
 obtain⟨U,X,e,q⟩:=c;unfold mx at e;split at e
 ·next hl=>
  cases e;exact⟨by rw[<-r.length];exact hl.1,q _ _ (uF (N4 Y)) (uG Z Y r)⟩
 ·cases e
end
section
variable {X:Cx}{E:XD}{a b e:Expr}{m n:TM}{pos:Pos}{rest es:List Expr}{ms:aF->M (List D)}{t u:aF->M Bool}
theorem mR{op}(h:SE X E a m):SE X E (.BoolOp op [a] pos) m:=Hq h
theorem kZ(U:SE X E a m)(W:SE X E (.BoolOp .And (b::rest) pos) n):SE X E (.BoolOp .And (a::b::rest) pos) (λρ=>do let x<-m ρ;let c<-kQ x;if c=cn then n ρ else a_ (.bl dt)):=by
 refine PE.imp (Hr U W) λσ H Q h=>?_;obtain⟨ι,S,ρ,rep,re,c⟩:=h;refine⟨ι,S,ρ,rep,re,aw (ai c) λx Z S1 R e1 rep1 c1 v1 T=>?_⟩;obtain⟨k,rfl,rfl,Y⟩:=uH rep1 T c1;refine⟨k,rfl,?_⟩;cases k with
 |true=>exact⟨Z,S1,ρ,rep1,re.later rep e1,Y⟩
 |false=>exact aq Y .refl rep1 _ (.bl dt)
theorem yi(Z:SE X E a m):SE X E (.UnaryOp .Not a pos) (λρ=>do let x<-m ρ;let c<-kQ x;a_ (.bl (!c))):=by refine PE.imp (Hs Z) λσ H Q h=>?_;obtain⟨ι,S,ρ,rep,re,c⟩:=h;refine⟨ι,S,ρ,rep,re,aw (ai c) λx Y S1 T e1 rep1 c1 v1 W=>?_⟩;obtain⟨k,rfl,rfl,U⟩:=uH rep1 W c1;exact⟨k,rfl,aq U .refl rep1 _ (.bl _)⟩
theorem Kv(h:yg X.K E (λρ=>do let x<-m ρ;kQ x) σ H Q):tB (tM X.K E m) σ H Q:=by obtain⟨ι,S,ρ,rep,re,c⟩:=h;refine⟨ι,S,ρ,rep,re,aw (ai c) λx Z S1 U e1 rep1 c1 v1 Y=>?_⟩;obtain⟨k,rfl,rfl,W⟩:=nG rep1 Y c1;exact⟨k,rfl,W⟩
theorem cI(h:SE X E e m)(Z:∀whole,isTrue e X.env whole=(do let v<-whole;M' e.pos;y' [v] (truthy v)):=by intro _;rfl):SB X E e (λρ=>do let x<-m ρ;kQ x):=
 PT.imp (Hl h Z) λ_ _ _ q=>Kv q
theorem mS(h:jS X (kr op) r)(Z:tP X.K E f r)(U:SE X E a m)(Y:SE X E b n)(R:mh op b=false:=by first|exact qI _ (by decide) (by decide)|rfl):
  SB X E (.Compare a [op] [b] pos) (λρ=>do let z<-(do let x<-m ρ;let y<-n ρ;f x y);kQ z):=
 PT.imp (zz h U Y R) λσ H Q q=>by obtain⟨ι,S,ρ,rep,re,c⟩:=q;refine Fx Z (Q:=λx W=>∃k,x= .bl k/\Q k W) ⟨ι,S,ρ,rep,re,aw (ai c) λx T S1 N e1 rep1 c1 v1 P=>?_⟩;obtain⟨k,rfl,rfl,O⟩:=nG rep1 P c1;exact⟨k,rfl,O⟩
theorem gr(h:SB X E a t):SB X E (.UnaryOp .Not a pos) (λρ=>do let c<-t ρ;a_ (!c)):=by refine PT.imp (Ho h) λσ H Q q=>?_;obtain⟨ι,S,ρ,rep,re,c⟩:=q;exact⟨ι,S,ρ,rep,re,aw (ai c) λk Z S1 Y e1 rep1 c1=>aq c1 .refl rep1⟩
theorem nH(h:SB X E a t):HV X E (.BoolOp .And [a] pos) t:=E9 h
theorem qW(h:SB X E a t):HV X E (.BoolOp .Or [a] pos) t:=Hm h
theorem oB(W:SB X E a t)(Y:HV X E (.BoolOp .And (b::rest) pos) u):HV X E (.BoolOp .And (a::b::rest) pos) (λρ=>do let c<-t ρ;if c=cn then u ρ else a_ dt):=by
 refine PW.imp (Hn W Y) λσ H Q q=>?_;obtain⟨ι,S,ρ,rep,re,c⟩:=q;refine⟨ι,S,ρ,rep,re,aw (ai c) λk Z S1 U e1 rep1 c1=>?_⟩;cases k with
 |true=>exact⟨Z,S1,ρ,rep1,re.later rep e1,c1⟩
 |false=>exact aq c1 .refl rep1
theorem tQ(W:SB X E a t)(Y:HV X E (.BoolOp .Or (b::rest) pos) u):HV X E (.BoolOp .Or (a::b::rest) pos) (λρ=>do let c<-t ρ;if c=cn then a_ cn else u ρ):=by
 refine PW.imp (J2 W Y) λσ H Q q=>?_;obtain⟨ι,S,ρ,rep,re,c⟩:=q;refine⟨ι,S,ρ,rep,re,aw (ai c) λk Z S1 U e1 rep1 c1=>?_⟩;cases k with
 |false=>exact⟨Z,S1,ρ,rep1,re.later rep e1,c1⟩
 |true=>exact aq c1 .refl rep1
theorem sQ(h:HV X E e t):SB X E e t:=PW.pt h
theorem ak:SA X E [] (λ_=>a_ []):=by refine PA.imp j8 λσ H Q q=>?_;obtain⟨ι,S,ρ,rep,re,c⟩:=q;exact aq c .refl rep _ .nil
theorem af(W:SE X E e m)(U:SA X E es ms)(hs:dV (e::es) X.env=(dt,hO e X.env)::dV es X.env:=by rfl):SA X E (e::es) (λρ=>do let x<-m ρ;let xs<-ms ρ;a_ (x::xs)):=by refine PA.imp (eT W U hs) λσ H Q q=>?_;obtain⟨ι,S,ρ,rep,re,c⟩:=q;refine⟨ι,S,ρ,rep,re,aw (ai c) λx Z S1 N e1 rep1 c1 v1 T=>?_⟩;refine⟨Z,S1,ρ,rep1,re.later rep e1,aw (ai c1) λxs P S2 O e2 rep2 R vs Y=>?_⟩;exact aq R .refl rep2 _ (.cons (T.later rep1 e2) Y)
theorem b8{x1}(h:SA X E es ms):SE X E (.Tuple es x1 pos) (λρ=>do let ds<-ms ρ;bP ds):=by refine PE.imp (Cy h) λσ H Q q=>?_;obtain⟨ι,S,ρ,rep,re,c⟩:=q;refine⟨ι,S,ρ,rep,re,aw (ai c) λx Y S1 T e1 rep1 c1 vs U=>?_⟩;obtain⟨Z,W⟩:=i4 c1 rep1 U;exact⟨Nv Z ik,W⟩
theorem bM(h:SA X E es ms):SE X E (.List es pos) (λρ=>do let ds<-ms ρ;bx ds):=by refine PE.imp (HJ h) λσ H Q q=>?_;obtain⟨ι,S,ρ,rep,re,c⟩:=q;refine⟨ι,S,ρ,rep,re,aw (ai c) λx Y S1 T e1 rep1 c1 vs U=>?_⟩;obtain⟨Z,W⟩:=bW c1 rep1 U;exact⟨Nv Z ik,W⟩
def nI(K:c_)(E:XD)(f:List D->M D)(r:List V->Hp->VK->Prop):Prop:=
 ∀ ι S H ds vs Q,Rep K ι H S->RelDs K ι H ds vs->cont K E (f ds) ι S H (mz K Q)->r vs H Q
theorem Kw(Y:nI X.K E f r)(h:tM X.K E (λρ=>do let ds<-ms ρ;f ds) σ H Q):Ml r (Mq X.K E ms) σ H Q:=by obtain⟨ι,S,ρ,rep,re,c⟩:=h;exact⟨ι,S,ρ,rep,re,aw (ai c) λds Z S1 U e1 rep1 c1 vs W=>Y Z S1 U ds vs Q rep1 W c1⟩
theorem jW{x:Str}{W:String}{f:List D->M D}{r:List V->Hp->VK->Prop}{p:Pos}(P:d7 X (.builtin W) r)(S:nI X.K E f r)(T:Gl X x)(R:X.mg x=none)(U:lz x=ar (.builtin W))(N:SA X E (e::es) ms)
  (Q:x≠"__name__":=by decide) (Y:(x==("__debug__":Str))=false:=by decide) (O:dV (e::es) X.env=(dt,hO e X.env)::dV es X.env:=by rfl) (Z:(wd pos (dV es X.env)).any (·.1)=false:=by rfl):
  SE X E (.Call (.Name x p) (e::es) [] pos) (λρ=>do let ds<-ms ρ;f ds):=
 PE.imp (kT P T R U N Q Y O Z) λ_ _ _ q=>Kw S q
theorem A9(O:d7 X (.type T) r)(S:nI X.K E f r)(U:Gl X x)(R:X.mg x=none)(W:lz x=ar (.type T))(P:SA X E (e::es) ms)
  (Q:x≠"__name__":=by decide) (Y:(x==("__debug__":Str))=false:=by decide) (N:dV (e::es) X.env=(dt,hO e X.env)::dV es X.env:=by rfl) (Z:(wd pos (dV es X.env)).any (·.1)=false:=by rfl):
  SE X E (.Call (.Name x p) (e::es) [] pos) (λρ=>do let ds<-ms ρ;f ds):=
 PE.imp (lL O U R W P Q Y N Z) λ_ _ _ q=>Kw S q
abbrev bS:XD:=λ_ _ _ _=>False
def M8(K:c_)(F:List D->M D):Sp:=λvs H Q _=>∃ ι S ds,Rep K ι H S/\RelDs K ι H ds vs/\cont K bS (F ds) ι S H (mz K Q)
def JO(K:c_)(E:XD)(f:D->List D->M D)(r:V->List V->Hp->VK->Prop):Prop:=
 ∀ ι S H d ds v vs Q,Rep K ι H S->RelD K ι H d v->RelDs K ι H ds vs->cont K E (f d ds) ι S H (mz K Q)->r v vs H Q
end
theorem gu{K:c_}{E:XD}{α:Type}{c:M α}{ι Z:List bc}{S:az}{H X:Hp}{Q:α->List bc->az->Hp->Prop}(h:cont K E c ι S H Q)(e:Ext ι H Z X):cont K E c Z S X Q:=by obtain⟨r,R,q,k⟩:=h;exact⟨r,R,q,λY U T rep2=>k Y U (e.trans T) rep2⟩
section
variable {X:Cx}{E:XD}{st:p_}{sts:List p_}{m n:cw}{e:Expr}{me:TM}{t:aF->M Bool}{pos:Pos}{g:mw}
def yj(o:Out)(n:cw):M Out:=match o with
 | .nx ρ=>n ρ
 | .ret d=>a_ (.ret d)
 | .bk ρ=>a_ (.bk ρ)
 | .ct ρ=>a_ (.ct ρ)
theorem b9:sP X E [] (λρ=>a_ (.nx ρ)):=by refine qH.imp Fb λT σ H h=>?_;obtain⟨ι,S,ρ,rep,re,c⟩:=h;exact aq c .refl rep σ re
theorem aB(U:SS X E st m)(R:sP X E sts n):sP X E (st::sts) (λρ=>do let o<-m ρ;yj o n):=by
 refine qH.imp (vU U R) λT σ H h=>?_;obtain⟨ι,S,ρ,rep,re,c⟩:=h;refine⟨ι,S,ρ,rep,re,aw (ai c) λo Z S1 Q e1 rep1 c1=>?_⟩;cases o with
 |nx ρ'=>exact λW Y=>⟨Z,S1,ρ',rep1,Y,c1⟩
 |ret d=>exact aq c1 .refl rep1
 |bk ρ'=>exact aq c1 .refl rep1
 |ct ρ'=>exact aq c1 .refl rep1
theorem aK(Z:SS X E st m):sP X E [st] m:=by refine qH.imp (zy Z) λT σ H h=>h
theorem d8(Y:SE X E e me)(hs:m_ e none pos.line X.env=a_ false:=by rfl):SS X E (.Expr e pos) (λρ=>do let _<-me ρ;a_ (.nx ρ)):=by refine PS.imp (Fc Y hs) λT σ H h=>?_;obtain⟨ι,S,ρ,rep,re,c⟩:=h;refine⟨ι,S,ρ,rep,re,aw (ai c) λd Z S1 W e1 rep1 c1 v r=>?_⟩;exact aq c1 .refl rep1 σ (re.later rep e1)
theorem aX(Z:SE X E e me):SS X E (.Return (ar e) pos) (λρ=>do let d<-me ρ;a_ (.ret d)):=by refine PS.imp (Ht Z) λT σ H h=>?_;obtain⟨ι,S,ρ,rep,re,c⟩:=h;exact⟨ι,S,ρ,rep,re,aw (ai c) λd Y S1 W e1 rep1 c1=>aq c1 .refl rep1⟩
theorem du(W:SB X E e t)(U:sP X E a m)(Y:sP X E b n):SS X E (.If e a b pos) (λρ=>do let c<-t ρ;if c=cn then m ρ else n ρ):=by
 refine PS.imp (GU W U Y) λT σ H h=>?_;obtain⟨ι,S,ρ,rep,re,c⟩:=h;refine⟨ι,S,ρ,rep,re,aw (ai c) λk Z S1 R e1 rep1 c1=>?_⟩;cases k with
 |true=>exact⟨Z,S1,ρ,rep1,re.later rep e1,c1⟩
 |false=>exact⟨Z,S1,ρ,rep1,re.later rep e1,c1⟩
theorem aN(i:Nat)(W:X.N.Nodup)(Z:X.N[i]? =ar x:=by rfl)(U:Loc X.env.scope x:=by first|exact K_ rfl|exact y7 rfl)(Y:X.fn x=cn\/X.env.scope.names.lookup x=ar .local:=by first|exact .inl rfl|exact .inr rfl|assumption):
  SG X E (.Name x pos) (λd ρ=>a_ (ρ.set i (ar d))):=by
 refine PG.imp (Fe W Z U Y) λv σ H Q h=>?_;obtain⟨ι,S,ρ,d,rep,re,r,c⟩:=h;exact aq c .refl rep _ (re.set r i)
def Mr(K:c_)(E:XD)(m:List D->aF->M aF):EY:=λvs σ H Q=>∃ ι S ρ ds,Rep K ι H S/\RelE K ι H ρ σ/\RelDs K ι H ds vs/\cont K E (m ds ρ) ι S H (λρ' ι' _ H'=>∀ σ',RelE K ι' H' ρ' σ'->Q σ' H')
def Kx(X:Cx)(E:XD)(ts:List Expr)(m:List D->aF->M aF):Prop:=Cm X ts (Mr X.K E m)
theorem Cm.imp{X:Cx}{e:List Expr}{t t':EY}(h:Cm X e t)(k:∀v σ H Q,t' v σ H Q->t v σ H Q):Cm X e t':=λpins s σ H v u Q I r hw=>h pins s σ H v u Q I r (k v σ H Q hw)
def eE:List D->aF->M aF:=λds ρ=>match ds with
 |[]=>a_ ρ
 |_=>M.fail
def a9(g:mw)(gs:List D->aF->M aF):List D->aF->M aF:=λds ρ=>match ds with
 |d::r=>do let ρ1<-g d ρ;gs r ρ1
 |_=>M.fail
theorem gQ:Kx X E [] eE:=by
 refine Cm.imp Ff λvs σ H Q h=>?_;obtain⟨ι,S,ρ,ds,rep,re,r,c⟩:=h;cases ds with
 |nil=>exact⟨r.nil_inv,aq c .refl rep σ re⟩
 |cons d ds=>exact(ah c).elim
theorem bQ(U:SG X E e g)(R:Kx X E es gs)(hs:(m1 (e::es) X.env).map (·.2)=RQ e X.env::(m1 es X.env).map (·.2):=by rfl):Kx X E (e::es) (a9 g gs):=by
 refine Cm.imp (Co U R hs) λvs σ H Q h=>?_;obtain⟨ι,S,ρ,ds,rep,re,r,c⟩:=h;cases ds with
 |nil=>exact(ah c).elim
 |cons d ds=>
  obtain⟨v,ws,rfl,P,O⟩:=r.cons_inv;refine⟨v,ws,rfl,ι,S,ρ,d,rep,re,P,aw (ai c) λZ Y S1 N e1 rep1 c1 T W=>?_⟩;exact⟨Y,S1,Z,ds,rep1,W,O.later rep e1,c1⟩
def fV(n:Nat)(gs:List D->aF->M aF):mw:=λd ρ=>match d with
 | .tup ds=>if ds.length=n then gs ds ρ else M.fail
 |_=>M.fail
theorem k9{es:List Expr}{k:Nat}{n:Nat}{Y:List D->aF->M aF}(U:X.calm=cn)(h:Kx X E es Y)(R:(m1 es X.env).length=n:=by rfl)(Z:(m1 es X.env).findIdx? (·.1)=none:=by rfl):
  SG X E (.Tuple es k pos) (fV n Y):=by
 refine PG.imp (Hu U h R Z) λv σ H Q q=>?_;obtain⟨ι,S,ρ,d,rep,re,r,c⟩:=q;cases d with
 |tup ds=>
  obtain⟨a,vs,rfl,T,W⟩:=r.tup_inv;dsimp only[fV]at c;split at c
  ·next hl=>exact⟨a,vs,rfl,ot.of T,by rw[<-W.length];exact hl,ι,S,ρ,ds,rep,re,W,c⟩
  ·exact(ah c).elim
 |_=>exact(ah c).elim
theorem oC(R:SE X E e me)(W:SG X E tg g)(hs:P_ [tg] e pos.line X.env=a_ false:=by rfl)(Q:QO [tg] e X.env=a_ none:=by rfl)
  (Y:(m1 [tg] X.env).map (·.2)=[RQ tg X.env]:=by rfl):SS X E (.Assign [tg] e pos) (λρ=>do let d<-me ρ;let ρ'<-g d ρ;a_ (.nx ρ')):=by
 refine PS.imp (Hx R W hs Q Y) λT σ H h=>?_;obtain⟨ι,S,ρ,rep,re,c⟩:=h;refine⟨ι,S,ρ,rep,re,aw (ai c) λd Z S1 N e1 rep1 c1 v r=>?_⟩;exact⟨Z,S1,ρ,d,rep1,re.later rep e1,r,aw (ai c1) λρ' P S2 O e2 rep2 U=>aq U .refl rep2⟩
theorem bH(i:Nat)(U:X.N.Nodup)(R:SE X E e me)(W:X.N[i]? =ar x:=by rfl)(Q:Loc X.env.scope x:=by first|exact K_ rfl|exact y7 rfl)(hs:m_ e (ar (.Name x pos')) pos.line X.env=a_ false:=by rfl)
  (Z:X.fn x=cn\/X.env.scope.names.lookup x=ar .local:=by first|exact .inl rfl|exact .inr rfl|assumption):SS X E (.Assign [.Name x pos'] e pos) (λρ=>do let d<-me ρ;a_ (.nx (ρ.set i (ar d)))):=by
 refine PS.imp (Cp U W Q R hs Z) λT σ H h=>?_;obtain⟨ι,S,ρ,rep,re,c⟩:=h;refine⟨ι,S,ρ,rep,re,aw (ai c) λd Y S1 P e1 rep1 c1 v r=>?_⟩;exact aq c1 .refl rep1 _ ((re.later rep e1).set r i)
theorem HX(i j:Nat){kt k2 pt2}(Q:X.calm=cn)(I:X.N.Nodup)(L:SA X E [a,b] ms)(K:X.N[i]? =ar x:=by rfl)(Y:X.N[j]? =ar y:=by rfl)(Z:i≠j:=by decide)
  (F:X.env.scope.names.lookup x=ar .local:=by rfl) (C:X.env.scope.names.lookup y=ar .local:=by rfl)
  (G:QO [.Tuple [.Name x px,.Name y py] kt pt] (.Tuple [a,b] k2 pt2) X.env=a_ (ar [x,y]):=by rfl)
  (hs:P_ [.Tuple [.Name x px,.Name y py] kt pt] (.Tuple [a,b] k2 pt2) pos.line X.env=a_ false:=by rfl):
  SS X E (.Assign [.Tuple [.Name x px,.Name y py] kt pt] (.Tuple [a,b] k2 pt2) pos) (λρ=>do let ds<-ms ρ;match ds with|[d1,d2]=>a_ (.nx ((ρ.set i (ar d1)).set j (ar d2)))|_=>M.fail):=by
 refine PS.imp (Hy Q I K Y Z F C L G hs) λT σ H h=>?_;obtain⟨ι,S,ρ,rep,re,c⟩:=h;refine⟨ι,S,ρ,rep,re,aw (ai c) λds P S1 B e1 rep1 c1 vs r=>?_⟩
 match ds,r,c1 with
 |[d1,d2],r,c1=>
  obtain⟨v1,ws,rfl,J,R⟩:=r.cons_inv;obtain⟨v2,W,rfl,O,U⟩:=R.cons_inv;cases U.nil_inv;exact⟨v1,v2,rfl,aq c1 .refl rep1 _ (((re.later rep e1).set J i).set O j)⟩
 |[],r,c1=>exact(ah c1).elim
 |[d],r,c1=>exact(ah c1).elim
 |d1::d2::d3::r',r,c1=>exact(ah c1).elim
def Ms(K:c_)(E:XD)(f:D->D->D->M Unit)(r:Fd):Prop:=
 ∀ ι S H d1 d2 d3 v1 v2 v3 Q,Rep K ι H S->RelD K ι H d1 v1->RelD K ι H d2 v2->RelD K ι H d3 v3->cont K E (f d1 d2 d3) ι S H (λ_ _ _ H'=>Q H')->r v1 v2 v3 H Q
def la:D->D->D->M Unit:=λo i v=>match o,i with
 | .lst k,.int j=>do
  let xs<-getL k
  match xO xs.length j with
  |some at'=>do let _<-mx k (xs.set at' v);a_ ()
  |none=>M.fail
 |_,_=>M.fail
inductive Chk where
 |none|some (k:Nat)|two (k j:Nat) (xs ys:List D)
structure Iter where
 items:List D
 chk:Chk
def Iter.okS(it:Iter)(S:az):Prop:=match it.chk with
 | .none=>True
 | .some k=>S[k]? = .some it.items
 | .two k j xs ys=>S[k]? = .some xs/\S[j]? = .some ys
open Classical in
def fW(it:Iter):M Unit:=λS=>if it.okS S then ar (.ok (),S)else none
def jF(K:c_)(it:Iter)(J:It)(ι:List bc)(H:Hp):Prop:=
 ∀ ι2 H2 S2,ExtN ι H ι2 H2->Rep K ι2 H2 S2->it.okS S2->∀i,(∀d,it.items[i]? =ar d->J.go i H2/\∀x H3,J.yld i H2 x H3->Ext ι2 H2 ι2 H3/\Rep K ι2 H3 S2/\RelD K ι2 H3 d x)/\(it.items.length<=i->J.stop i H2)
def JP(K:c_)(E:XD)(mi:aF->M Iter):TI:=λσ H R=>∃ ι S ρ,Rep K ι H S/\RelE K ι H ρ σ/\cont K E (mi ρ) ι S H (λit ι' _ H'=>∀J,jF K it J ι' H'->R J H')
def SI(X:Cx)(E:XD)(tg iter:Expr)(mi:aF->M Iter):Prop:=PI X tg iter (JP X.K E mi)
def dC(it:Iter)(g:mw)(b:cw):List D->aF->M Out
 |[],ρ=>do fW it;a_ (.nx ρ)
 |d::ds,ρ=>do
  fW it
  let ρ1<-g d ρ;let o<-b ρ1
  match o with
  | .nx ρ'=>dC it g b ds ρ'
  | .ct ρ'=>dC it g b ds ρ'
  | .bk ρ'=>a_ (.nx ρ')
  | .ret r=>a_ (.ret r)
theorem jX{K:c_}{ι:List bc}{S:az}{H:Hp}{α:Type}{it:Iter}{f:Unit->M α}{Q:α->List bc->az->Hp->Prop}(h:cont K E (fW it>>=f) ι S H Q)(Z:Rep K ι H S):it.okS S/\cont K E (f ()) ι S H Q:=by
 obtain⟨r,Y,e,k⟩:=ai h;unfold fW at e;split at e
 ·next ho=>cases e;exact⟨ho,k ι H .refl Z⟩
 ·cases e
theorem eF(hp:R9 (fb X.prog X.w) X.A X.env X.xe)(l:X.calm=cn)(hi:SI X E tg iter mi)(hg:SG X E tg g)(p:sP X E body b)
  (hs:∀x,g_ iter X.env x=a_ x:=by intro _;rfl):SS X E (.For tg iter body [] pos) (λρ=>do let it<-mi ρ;dC it g b it.items ρ):=by
 refine PS.imp (HB hp l hi hg p hs) λT σ H h=>?_;obtain⟨ι,S,ρ,rep,re,c⟩:=h;refine⟨ι,S,ρ,rep,re,aw (ai c) λit U S1 u e1 rep1 c1 J q=>?_⟩;refine⟨λi n O W=>∃ ι2 S2 ρ2,n=it.items.length - i/\i<=it.items.length/\Ext U u ι2 W/\Rep X.K ι2 W S2/\RelE X.K ι2 W ρ2 O/\cont X.K E (dC it g b (it.items.drop i) ρ2) ι2 S2 W (E4 X.K T),⟨_,U,S1,ρ,rfl,NN _,.refl,rep1,re.later rep e1,c1⟩,?_⟩;rintro i n O W ⟨ι2,S2,ρ2,hn,hi',e2,rep2,re2,c2⟩;by_cases hlt:i<it.items.length
 ·have hd:it.items.drop i=it.items[i]::it.items.drop (i+1):=Pd hlt;rw[hd]at c2;have P:cont X.K E (do fW it;let ρ1<-g it.items[i] ρ2;let o<-b ρ1;match o with| .nx ρ'=>dC it g b (it.items.drop (i+1)) ρ'| .ct ρ'=>dC it g b (it.items.drop (i+1)) ρ'| .bk ρ'=>a_ (.nx ρ')| .ret r=>a_ (.ret r)) ι2 S2 W (E4 X.K T):=c2;obtain⟨ok,c3⟩:=jX P rep2;obtain⟨F,a⟩:=q ι2 W S2 e2.n rep2 ok i;obtain⟨go,k⟩:=F it.items[i] (Np hlt);refine .inr ⟨go,λR Y=>∃ ι3 S3 ρ3,Ext U u ι3 Y/\Rep X.K ι3 Y S3/\RelE X.K ι3 Y ρ3 R/\cont X.K E (dC it g b (it.items.drop (i+1)) ρ3) ι3 S3 Y (E4 X.K T),?_,λx f hy=>?_⟩
  ·rintro R Y ⟨ι3,S3,ρ3,e3,rep3,re3,v⟩;exact⟨_,by omega,ι3,S3,ρ3,rfl,hlt,e3,rep3,re3,v⟩
  ·obtain⟨e3,rep3,rd⟩:=k x f hy;refine⟨ι2,S2,ρ2,it.items[i],rep3,re2.later rep2 e3,rd,aw (ai (gu c3 e3)) λB y S4 H4 e4 I v j C=>?_⟩;refine⟨y,S4,B,I,C,aw (ai v) λo N s H5 e5 Z G=>?_⟩;have L:Ext U u N H5:=e2.trans (e3.trans (e4.trans e5));cases o with
   |nx ρ'=>exact λz Q=>⟨N,s,ρ',L,Z,Q,G⟩
   |ct ρ'=>exact λz Q=>⟨N,s,ρ',L,Z,Q,G⟩
   |bk ρ'=>exact aq G .refl Z
   |ret d=>exact aq G .refl Z
 ·have hd:it.items.drop i=[]:=OM (by omega);rw[hd]at c2;have P:cont X.K E (do fW it;a_ (.nx ρ2)) ι2 S2 W (E4 X.K T):=c2;obtain⟨ok,c3⟩:=jX P rep2;exact .inl ⟨(q ι2 W S2 e2.n rep2 ok i).2 (by omega),aq c3 .refl rep2 O re2⟩
def lb(t:aF->M Bool)(b:cw):Nat->aF->M Out
 |0,_=>M.fail
 | k+1,ρ=>do
  let c<-t ρ
  if c=cn then do
   let o<-b ρ
   match o with
   | .nx ρ'=>lb t b k ρ'
   | .ct ρ'=>lb t b k ρ'
   | .bk ρ'=>a_ (.nx ρ')
   | .ret r=>a_ (.ret r)
  else a_ (.nx ρ)
theorem CP(k:Nat)(G:R9 (fb X.prog X.w) X.A X.env X.xe)(F:SB X E e t)(I:sP X E body b):SS X E (.While e body [] pos) (λρ=>lb t b k ρ):=by
 refine PS.imp (Cq G F I) λT σ H h=>?_;obtain⟨ι,S,ρ,rep,re,c⟩:=h;refine⟨λn R O=>∃ ι2 S2 ρ2,Rep X.K ι2 O S2/\RelE X.K ι2 O ρ2 R/\cont X.K E (lb t b n ρ2) ι2 S2 O (E4 X.K T),⟨k,ι,S,ρ,rep,re,c⟩,?_⟩;rintro n R O ⟨ι2,S2,ρ2,rep2,re2,c2⟩;cases n with
 |zero=>exact(ah c2).elim
 | succ n=>
  refine⟨ι2,S2,ρ2,rep2,re2,aw (ai c2) λk L C y e3 rep3 c3=>?_⟩;cases k with
  |false=>exact aq c3 .refl rep3 R (re2.later rep2 e3)
  |true=>
   refine⟨λW Y=>∃ ι2 S2 ρ2,Rep X.K ι2 Y S2/\RelE X.K ι2 Y ρ2 W/\cont X.K E (lb t b n ρ2) ι2 S2 Y (E4 X.K T),λW Y h=>⟨n,Po _,h⟩,?_⟩;refine⟨L,C,ρ2,rep3,re2.later rep2 e3,aw (ai c3) λo Q J B z Z P=>?_⟩;cases o with
   |nx ρ'=>exact λN U=>⟨Q,J,ρ',Z,U,P⟩
   |ct ρ'=>exact λN U=>⟨Q,J,ρ',Z,U,P⟩
   |bk ρ'=>exact aq P .refl Z
   |ret d=>exact aq P .refl Z
end
def cX(H:Hp)(p:bc):Hp:=λa=>if a=p then none else H a
theorem hide_ne{H:Hp}(h:a≠p):cX H p a=H a:=if_neg h
theorem lO:cX H p p=none:=if_pos rfl
theorem cN{H:Hp}(h:cX H p a=ar o):a≠p/\H a=ar o:=by
 by_cases e:a=p
 ·rw[e,lO]at h;cases h
 ·rw[hide_ne e]at h;exact⟨e,h⟩
theorem v9{H:Hp}(h:H p=ar o):upd (cX H p) p o=H:=by
 funext a;by_cases e:a=p
 ·rw[e,a8,h]
 ·rw[aO e,hide_ne e]
theorem eG:cX (upd H p o) p=cX H p:=by
 funext a;by_cases e:a=p
 ·rw[e,lO,lO]
 ·rw[hide_ne e,hide_ne e,aO e]
theorem i5{H:Hp}(h:H p=none):cX H p=H:=by
 funext a;by_cases e:a=p
 ·rw[e,lO,h]
 ·rw[hide_ne e]
section
variable {K:c_}{ι ι':List bc}{H H':Hp}{S:az}{p:bc}
mutual
theorem RelD.hide(Z:H p=ar (.lst ws)):∀{d:D} {v:V},RelD K ι H d v->RelD K ι (cX H p) d v
 |_,_,.non=>.non
 |_,_,.bl b=>.bl b
 |_,_,.int i=>.int i
 |_,_,.str x=>.str x
 |_,_,.tup h hs=>.tup (by rw[hide_ne (λz=>by rw[z,Z]at h;cases h)];exact h) (RelDs.hide Z hs)
 |_,_,.lst h=>.lst h
 |_,_,.ro h hs=>.ro (h.imp (λ⟨o,h⟩=>⟨o,by rw[hide_ne (λz=>by rw[z,Z]at h;cases h)];exact h⟩) λz=>z) (RelDs.hide Z hs)
 |_,_,.emp h=>.emp (by rw[hide_ne (λz=>by rw[z,Z]at h;cases h)];exact h)
 |_,_,.fn h hs=>.fn (by rw[hide_ne (λz=>by rw[z,Z]at h;cases h)];exact h) (RelDs.hide Z hs)
 |_,_,.exc n h=>.exc n (by rw[hide_ne (λz=>by rw[z,Z]at h;cases h)];exact h)
 |_,_,.excF n h h2 hn hs=>.excF n (by rw[hide_ne (λz=>by rw[z,Z]at h;cases h)];exact h) (by rw[hide_ne (λz=>by rw[z,Z]at h2;cases h2)];exact h2) hn (RelDs.hide Z hs)
 |_,_,.fz h hs=>.fz (by rw[hide_ne (λz=>by rw[z,Z]at h;cases h)];exact h) (RelDs.hide Z hs)
theorem RelDs.hide(Z:H p=ar (.lst ws)):∀{ds:List D} {vs:List V},RelDs K ι H ds vs->RelDs K ι (cX H p) ds vs
 |_,_,.nil=>.nil
 |_,_,.cons h hs=>.cons (RelD.hide Z h) (RelDs.hide Z hs)
end
mutual
theorem RelD.unhide:∀{d:D} {v:V},RelD K ι (cX H p) d v->RelD K ι H d v
 |_,_,.non=>.non
 |_,_,.bl b=>.bl b
 |_,_,.int i=>.int i
 |_,_,.str x=>.str x
 |_,_,.tup h hs=>.tup (cN h).2 (RelDs.unhide hs)
 |_,_,.lst h=>.lst h
 |_,_,.ro h hs=>.ro (h.imp (λ⟨o,h⟩=>⟨o,(cN h).2⟩) λz=>z) (RelDs.unhide hs)
 |_,_,.emp h=>.emp (cN h).2
 |_,_,.fn h hs=>.fn (cN h).2 (RelDs.unhide hs)
 |_,_,.exc n h=>.exc n (cN h).2
 |_,_,.excF n h h2 hn hs=>.excF n (cN h).2 (cN h2).2 hn (RelDs.unhide hs)
 |_,_,.fz h hs=>.fz (cN h).2 (RelDs.unhide hs)
theorem RelDs.unhide:∀{ds:List D} {vs:List V},RelDs K ι (cX H p) ds vs->RelDs K ι H ds vs
 |_,_,.nil=>.nil
 |_,_,.cons h hs=>.cons (RelD.unhide h) (RelDs.unhide hs)
end
theorem RelE.hide(Z:H p=ar (.lst ws)):∀{ρ:aF} {σ:St},RelE K ι H ρ σ->RelE K ι (cX H p) ρ σ
 |_,_,.nil=>.nil
 |_,_,.cons h t=>.cons (λd z=>let ⟨v,e1,e2⟩:=h d z;⟨v,e1,e2.hide Z⟩) (RelE.hide Z t)
theorem RelE.unhide:∀{ρ:aF} {σ:St},RelE K ι (cX H p) ρ σ->RelE K ι H ρ σ
 |_,_,.nil=>.nil
 |_,_,.cons h t=>.cons (λd z=>let ⟨v,e1,e2⟩:=h d z;⟨v,e1,e2.unhide⟩) (RelE.unhide t)
theorem Rep.hide(Z:H p=ar (.lst ws))(Y:p∉ι)(r:Rep K ι H S):Rep K ι (cX H p) S:=
 ⟨r.nd,r.len,λk a xs e1 e2=>let ⟨vs,h1,h2⟩:=r.get k a xs e1 e2;⟨vs,by rw[hide_ne (λz=>Y (by rw[<-z];exact N4 e1))];exact h1,h2.hide Z⟩,r.tab.mono λb o h n=>by rw[hide_ne (λz=>by subst z;rw[h]at Z;exact n ws (NP Z))];exact h⟩
theorem Rep.unhide(r:Rep K ι (cX H p) S):Rep K ι H S:=
 ⟨r.nd,r.len,λk a xs e1 e2=>let ⟨vs,h1,h2⟩:=r.get k a xs e1 e2;⟨vs,(cN h1).2,h2.unhide⟩,r.tab.mono λb o h _=>(cN h).2⟩
theorem Ext.hide(e:Ext ι H ι' H'):Ext ι (cX H p) ι' (cX H' p):=
 ⟨e.ids,λa o h n t=>by obtain⟨U,Z⟩:=cN h;obtain⟨X,Y⟩:=e.oth a o Z n t;exact⟨by rw[hide_ne U];exact X,Y⟩⟩
theorem Ext.unhide(e:Ext ι H ι' (cX H' p)):Ext ι H ι' H':=
 ⟨e.ids,λa o h n t=>by obtain⟨Y,Z⟩:=e.oth a o h n t;exact⟨(cN Y).2,Z⟩⟩
theorem gv{E:XD}{α:Type}{c:M α}{Y:List V}{Q:α->List bc->az->Hp->Prop}(h:cont K bS c ι S (cX H p) Q)(T:H p=ar (.lst Y))(R:p∉ι):
  cont K E c ι S H (λa ι' Z H'=>H' p=ar (.lst Y)/\p∉ι'/\Q a ι' Z (cX H' p)):=by
 obtain⟨r,Z,e,k⟩:=h;refine⟨r,Z,e,λι' H' x rep=>?_⟩;obtain⟨X,U⟩:=x.oth p _ T R (by intro _ z;cases z);have:=k ι' (cX H' p) x.hide (rep.hide X U);cases r with
 |ok a=>exact⟨X,U,this⟩
 |ex y=>exact this.elim
end
def fS(js:List (Option Nat))(ρ:aF):aF:=js.map λo=>o.bind λj=>(ρ[j]?).join
theorem RelE.blk{K:c_}{ι:List bc}{H:Hp}{ρ:aF}{X:St}(Y:RelE K ι H ρ X):∀js:List (Option Nat),RelE K ι H (fS js ρ) (oA js X)
 |[]=>.nil
 |none::js=>.cons (λd z=>by cases z) (RelE.blk Y js)
 | some j::js=>.cons (λd z=>by
   have Z:(ρ[j]?).join=ar d:=z;have:ρ[j]? =ar (ar d):=by
    cases q:ρ[j]? with
    |none=>rw[q]at Z;cases Z
    |some o=>rw[q]at Z;exact QL ar Z
   obtain⟨v,e1,e2⟩:=Y.get this;refine⟨v,?_,e2⟩;show(X[j]?).join=ar v;rw[e1];rfl) (RelE.blk Y js)
def cF(it:Iter)(g:mw)(t:aF->M Bool)(m:TM):List D->aF->M (List D)
 |[],ρ=>do fW it;a_ []
 | d::ds,ρ=>do
  fW it
  let ρ1<-g d ρ;let b<-t ρ1
  if b=cn then do
   let y<-m ρ1;let ys<-cF it g t m ds ρ1
   a_ (y::ys)
  else cF it g t m ds ρ1
def eV(it:Iter)(g:mw)(t:aF->M Bool)(m:TM)(ρ:aF):M (List D):=if it.items.length<=lim then cF it g t m it.items ρ else M.fail
def JQ(X:Cx)(E:XD)(ifs:List Expr)(t:aF->M Bool):Prop:=E2 X ifs (yg X.K E t)
theorem eW:JQ X E [] (λ_=>a_ cn):=λpins s σ H Q I h=>Ft pins s σ H Q I (by obtain⟨ι,S,ρ,rep,re,c⟩:=h;exact aq c .refl rep)
theorem dD(h:SB X E c t):JQ X E [c] t:=Fu h
section
variable {X:Cx}{scope:Scope}{Nc:List Str}{js:List (Option Nat)}{elt tg iter:Expr}{ifs:List Expr}{pos:Pos}{mi:aF->M Iter}{g:mw}{t:aF->M Bool}{m:TM}
theorem dY{α β Z:Type}(c:M α)(f:α->M β)(h:β->M Z):((c>>=f)>>=h)=(c>>=λa=>f a>>=h):=by
 funext S;show M.bnd (M.bnd c f) h S=M.bnd c (λa=>M.bnd (f a) h) S;unfold M.bnd;cases c S with
 |none=>rfl
 |some r=>
  obtain⟨r,Y⟩:=r;cases r<;>rfl
theorem aj{α β:Type}(a:α)(f:α->M β):(a_ a>>=f)=f a:=rfl
theorem zM{α β:Type}{c:Prop} [Decidable c](x y:M α)(f:α->M β):((if c then x else y)>>=f)=if c then x>>=f else y>>=f:=by split<;>rfl
abbrev Ky(js:List (Option Nat))(g:TG)(tt:TT)(te:TE)(σ:St)(Q:VK):It->Hp->Prop:=λJ H1=>∀p,H1 p=none->
 ∃W:Nat->Nat->St->Hp->Prop,(∃m,W 0 m (oA js σ) (upd H1 p (.lst [])))/\∀i m σc Hc,W i m σc Hc->
  (J.stop i Hc/\Q (.ref p) Hc)\/(J.go i Hc/\∃N:St->Hp->Prop,(∀ σ' H',N σ' H'->∃m',m'<m/\W (i+1) m' σ' H')/\∀x H',J.yld i Hc x H'->g x σc H' λσ2 H2=>tt σ2 H2 λb H3=>
   if b=cn then te σ2 H3 λy H4=>∃xs,H4 p=ar (.lst xs)/\xs.length<sizeLine/\N σ2 (upd H4 p (.lst (xs++[y])))else N σ2 H3)
theorem wa{Q:VK}{j:St}{H:Hp}{ι:List bc}{S:az}{ρ:aF}(u:Rep X.K ι H S)(re:RelE X.K ι H ρ j)(c:cont X.K bS (do let it<-mi ρ;let ys<-eV it g t m (fS js ρ);bx ys) ι S H (mz X.K Q)):
  cont X.K bS (mi ρ) ι S H (λit Y _ T=>∀J,jF X.K it J Y T->Ky js (Ce X.K bS g) (yg X.K bS t) (tM X.K bS m) j Q J T):=by
 refine aw (ai c) λit Y S1 T e1 rep1 c1 J e p A=>?_;have o:it.items.length<=lim/\cont X.K bS (cF it g t m it.items (fS js ρ)>>=λys=>bx ys) Y S1 T (mz X.K Q):=by
  have U:cont X.K bS ((if it.items.length<=lim then cF it g t m it.items (fS js ρ)else M.fail)>>=λys=>bx ys) Y S1 T (mz X.K Q):=c1;by_cases h:it.items.length<=lim
  ·rw[if_pos h]at U;exact⟨h,U⟩
  ·rw[if_neg h]at U;exact(ah (ai U)).elim
 obtain⟨hlen,c1⟩:=o;have l:RelE X.K Y T (fS js ρ) (oA js j):=(re.later u e1).blk js;refine⟨λi n F W=>∃ ι2 S2 ρ2 xs vs,n=it.items.length - i/\i<=it.items.length/\Ext Y T ι2 (cX W p)/\Rep X.K ι2 (cX W p) S2/\RelE X.K ι2 (cX W p) ρ2 F/\W p=ar (.lst vs)/\p∉ι2/\RelDs X.K ι2 (cX W p) xs vs/\xs.length<=i/\
  cont X.K bS (cF it g t m (it.items.drop i) ρ2>>=λys=>bx (xs++ys)) ι2 S2 (cX W p) (mz X.K Q),⟨_,Y,S1,fS js ρ,[],[],rfl,NN _,?_,?_,?_,a8,rep1.free A,.nil,NN _,?_⟩,?_⟩
 ·rw[eG,i5 A];exact .refl
 ·rw[eG,i5 A];exact rep1
 ·rw[eG,i5 A];exact l
 ·rw[eG,i5 A];exact c1
 rintro i n F W ⟨ι2,S2,ρ2,xs,vs,hn,hi',e2,rep2,re2,hpc,hpn,rx,hlim,c2⟩;by_cases hlt:i<it.items.length
 ·have hd:it.items.drop i=it.items[i]::it.items.drop (i+1):=Pd hlt;rw[hd]at c2;have O:cont X.K bS (fW it>>=λ_=>g it.items[i] ρ2>>=λZ=>t Z>>=λb=>if b=cn then m Z>>=λy=>cF it g t m (it.items.drop (i+1)) Z>>=λys=>bx (xs++y::ys)else cF it g t m (it.items.drop (i+1)) Z>>=λys=>bx (xs++ys)) ι2 S2 (cX W p) (mz X.K Q):=by
   have:(cF it g t m (it.items[i]::it.items.drop (i+1)) ρ2>>=λys=>bx (xs++ys))=(fW it>>=λ_=>g it.items[i] ρ2>>=λZ=>t Z>>=λb=>if b=cn then m Z>>=λy=>cF it g t m (it.items.drop (i+1)) Z>>=λys=>bx (xs++y::ys)else cF it g t m (it.items.drop (i+1)) Z>>=λys=>bx (xs++ys)):=by show((fW it>>=λ_=>g it.items[i] ρ2>>=λZ=>t Z>>=λb=>if b=cn then m Z>>=λy=>cF it g t m (it.items.drop (i+1)) Z>>=λys=>a_ (y::ys)else cF it g t m (it.items.drop (i+1)) Z)>>=λys=>bx (xs++ys))=_;simp only[dY,zM,aj]
   rw[<-this];exact c2
  obtain⟨ok,c3⟩:=jX O rep2;obtain⟨s,a⟩:=e ι2 W S2 e2.unhide.n rep2.unhide ok i;obtain⟨go,d⟩:=s it.items[i] (Np hlt);refine .inr ⟨go,λv P=>∃ ι3 S3 ρ3 xs3 vs3,Ext Y T ι3 (cX P p)/\Rep X.K ι3 (cX P p) S3/\RelE X.K ι3 (cX P p) ρ3 v/\P p=ar (.lst vs3)/\p∉ι3/\RelDs X.K ι3 (cX P p) xs3 vs3/\xs3.length<=i+1/\
   cont X.K bS (cF it g t m (it.items.drop (i+1)) ρ3>>=λys=>bx (xs3++ys)) ι3 S3 (cX P p) (mz X.K Q),?_,λx f hy=>?_⟩
  ·rintro v P ⟨ι3,S3,ρ3,xs3,vs3,h1,h2,h3,h4,h5,h6,h7,h8⟩;exact⟨_,by omega,ι3,S3,ρ3,xs3,vs3,rfl,hlt,h1,h2,h3,h4,h5,h6,h7,h8⟩
  ·obtain⟨e3,rep3,rd⟩:=d x f hy;obtain⟨q,_⟩:=e3.oth p _ hpc hpn (by intro _ z;cases z);have w:Ext ι2 (cX W p) ι2 (cX f p):=e3.hide;have c4:=ai (gu c3 w);refine⟨ι2,S2,ρ2,it.items[i],rep3,re2.unhide.later rep2.unhide e3,rd,aw (gv (E:=bS) c4 q hpn) λρ4 ι4 S4 H4 e4 rep4 ⟨hp4,hn4,c5⟩ σ4 re4=>?_⟩;have k:Rep X.K ι4 (cX H4 p) S4:=rep4.hide hp4 hn4;have r:Ext ι2 (cX W p) ι4 (cX H4 p):=w.trans e4.hide;refine⟨ι4,S4,ρ4,rep4,re4,aw (gv (E:=bS) (ai c5) hp4 hn4) λb ι5 S5 H5 e5 rep5 ⟨hp5,hn5,c6⟩=>?_⟩;have L:Rep X.K ι5 (cX H5 p) S5:=rep5.hide hp5 hn5;have N:Ext ι2 (cX W p) ι5 (cX H5 p):=r.trans e5.hide;have R:RelE X.K ι5 H5 ρ4 σ4:=re4.later rep4 e5;cases b with
   |false=>
    have G:cont X.K bS (cF it g t m (it.items.drop (i+1)) ρ4>>=λys=>bx (xs++ys)) ι5 S5 (cX H5 p) (mz X.K Q):=c6;exact⟨ι5,S5,ρ4,xs,vs,e2.trans N,L,R.hide hp5,hp5,hn5,rx.later rep2 N,by omega,G⟩
   |true=>
    have G:cont X.K bS (m ρ4>>=λy=>cF it g t m (it.items.drop (i+1)) ρ4>>=λys=>bx (xs++y::ys)) ι5 S5 (cX H5 p) (mz X.K Q):=c6;refine⟨ι5,S5,ρ4,rep5,R,aw (gv (E:=bS) (ai G) hp5 hn5) λy ι6 S6 H6 e6 rep6 ⟨hp6,hn6,c7⟩ yv ry=>?_⟩;have B:Ext ι2 (cX W p) ι6 (cX H6 p):=N.trans e6.hide;have I:Rep X.K ι6 (cX H6 p) S6:=rep6.hide hp6 hn6;have C:=rx.later rep2 B;have hl:vs.length<sizeLine:=by rw[<-C.length];exact Qf (by omega) CN
    refine⟨vs,hp6,hl,ι6,S6,ρ4,xs++[y],vs++[yv],?_⟩;rw[eG];refine⟨e2.trans B,I,(R.later rep5 e6).hide hp6,a8,hn6,C.append (.cons (ry.hide hp6) .nil),by simp;omega,by simpa using c7⟩
 ·have hd:it.items.drop i=[]:=OM (by omega);rw[hd]at c2;have O:cont X.K bS (fW it>>=λ_=>bx (xs++[])) ι2 S2 (cX W p) (mz X.K Q):=by
   have:(cF it g t m [] ρ2>>=λys=>bx (xs++ys))=(fW it>>=λ_=>bx (xs++[])):=by show((fW it>>=λ_=>a_ [])>>=λys=>bx (xs++ys))=_;simp only[dY,aj]
   rw[<-this];exact c2
  obtain⟨ok,c3⟩:=jX O rep2;rw[NT]at c3;refine .inl ⟨(e ι2 W S2 e2.unhide.n rep2.unhide ok i).2 (by omega),?_⟩;have:=(bW c3 rep2 rx).2 p lO;rw[v9 hpc]at this;exact this
theorem wb(h:tM X.K bS (λρ=>do let it<-mi ρ;let ys<-eV it g t m (fS js ρ);bx ys) σ H Q):
  zK (JP X.K bS mi) js (Ce X.K bS g) (yg X.K bS t) (tM X.K bS m) σ H Q:=
 let ⟨ι,S,ρ,rep,re,c⟩:=h
 ⟨ι,S,ρ,rep,re,wa rep re c⟩
theorem eX(c:CompScope X scope Nc js)(W:X.calm=cn)(Y:SI X bS tg iter mi)
  (Z:∀C ex s H,SG (aR X scope Nc C ex s H) bS tg g/\JQ (aR X scope Nc C ex s H) bS ifs t/\SE (aR X scope Nc C ex s H) bS elt m)
  (hs:∀x,g_ iter X.env x=a_ x:=by intro _;rfl):SE X bS (.ListComp elt [⟨tg,iter,ifs,0⟩] scope pos) (λρ=>do let it<-mi ρ;let ys<-eV it g t m (fS js ρ);bx ys):=
 PE.imp (Fv (g:=Ce X.K bS g) (tt:=yg X.K bS t) (te:=tM X.K bS m) c W Y Z hs) λ_ _ _ q=>wb q
theorem eI(i:Nat)(O:X.N.Nodup)(c:CompScope X scope Nc js)(R:X.calm=cn)(P:SI X bS tg iter mi)
  (Z:∀C ex s H,SG (aR X scope Nc C ex s H) bS tg g/\JQ (aR X scope Nc C ex s H) bS ifs t/\SE (aR X scope Nc C ex s H) bS elt m)
  (Y:X.N[i]? =ar x:=by rfl) (L:Loc X.env.scope x:=by first|exact K_ rfl|exact y7 rfl)
  (W:m_ (.ListComp elt [⟨tg,iter,ifs,0⟩] scope cpos) (ar (.Name x pos')) pos.line X.env=a_ true:=by rfl)
  (U:X.fn x=cn\/X.env.scope.names.lookup x=ar .local:=by first|exact .inl rfl|exact .inr rfl|assumption)
  (hs:∀x,g_ iter X.env x=a_ x:=by intro _;rfl):SS X bS (.Assign [.Name x pos'] (.ListComp elt [⟨tg,iter,ifs,0⟩] scope cpos) pos)
   (λρ=>do let d<-(do let it<-mi ρ;let ys<-eV it g t m (fS js ρ);bx ys);a_ (.nx (ρ.set i (ar d)))):=by
 refine PS.imp (yf (g:=Ce X.K bS g) (tt:=yg X.K bS t) (te:=tM X.K bS m) O Y L c R P Z W U hs) λT σ H h=>?_;obtain⟨ι,S,ρ,rep,re,c⟩:=h;refine wb ⟨ι,S,ρ,rep,re,aw (ai c) λd Q S1 J e1 rep1 c1 v r=>?_⟩;exact aq c1 .refl rep1 _ ((re.later rep e1).set r i)
end
section
variable {P:eb}{w:eK}{K:c_}{mg:Str->Option aC}{base:f'}
def outD:Out->M D
 | .nx _=>a_ .non
 | .ret d=>a_ d
 |_=>M.fail
def pS(N n:Nat)(m:cw):List D->M D:=λds=>if ds.length=n then do let o<-m (ds.map ar++ey (N - n) none);outD o else M.fail
end
def sR(f:Int->Int->M D):D->D->M D
 | .int i,.int j=>f i j
 |_,_=>M.fail
theorem lQ{K:c_}{E:XD}{g:Int->Int->V}{f:Int->Int->D}(X:∀ ι H i j,RelD K ι H (f i j) (g i j)):tP K E (sR λi j=>a_ (f i j)) (EZ g):=by
 intro ι S H Z Y v1 v2 Q rep U T c;cases Z<;>cases Y<;>first
  |exact(ah c).elim
  |exact⟨_,_,U.int_inv,T.int_inv,aq c .refl rep _ (X _ _ _ _)⟩
theorem nJ{K:c_}{E:XD}{C:Int->Int->Prop} [∀i j,Decidable (C i j)]{g:Int->Int->V}{f:Int->Int->D}(U:∀ ι H i j,RelD K ι H (f i j) (g i j)):tP K E (sR λi j=>if C i j then a_ (f i j)else M.fail) (rI C g):=by
 intro ι S H Y X v1 v2 Q rep T R c;cases Y<;>cases X<;>first
  |exact(ah c).elim
  | (next i j=>
    have Z:cont K E (if C i j then a_ (f i j)else M.fail) ι S H (mz K Q):=c;by_cases h:C i j
    ·rw[if_pos h]at Z;exact⟨_,_,T.int_inv,R.int_inv,h,aq Z .refl rep _ (U _ _ _ _)⟩
    ·rw[if_neg h]at Z;exact(ah Z).elim)
def uI:D->D->M D:=sR λi j=>a_ (.int (i - j))
instance:∀i j,Decidable (xW i j):=λi j=>inferInstanceAs (Decidable (_\/_))
instance:∀i j,Decidable (Cs i j):=λi j=>inferInstanceAs (Decidable (_/\_))
instance:∀i j,Decidable (Fh i j):=λi j=>inferInstanceAs (Decidable (_/\_))
def uJ:D->D->M D:=sR λi j=>if xW i j then a_ (.int (i*j))else M.fail
def zN:D->D->M D:=sR λi j=>if Cs i j then a_ (.int (i / j))else M.fail
def uK:D->D->M D:=sR λi j=>if 0<j then a_ (.int (i % j))else M.fail
def CQ:D->D->M D:=sR λi j=>if Fh i j then a_ (.int (i ^ j.toNat))else M.fail
def cy:D->D->M D
 | .int i,.int j=>a_ (.int (i+j))
 | .tup xs,.tup ys=>bP (xs++ys)
 | .lst a,.lst b=>do let xs<-getL a;let ys<-getL b;bx (xs++ys)
 | .lst a,.fz ys=>do let xs<-getL a;bx (xs++ys)
 | .fz xs,.lst b=>do let ys<-getL b;bx (xs++ys)
 | .fz xs,.fz ys=>bx (xs++ys)
 |_,_=>M.fail
def HY:D->D->M D:=sR λi j=>a_ (.bl (decide (i<=j)))
def GZ:D->D->M D:=sR λi j=>a_ (.bl (decide (j<i)))
def Mt:D->D->M D:=sR λi j=>a_ (.bl (decide (j<=i)))
section
variable {X:Cx}{E:XD}{a b e c:Expr}{m n l:TM}{pos:Pos}
theorem yk(Z:SE X E a m)(Y:SE X E b n):SE X E (.BinOp a .Sub b pos) (λρ=>do let x<-m ρ;let y<-n ρ;uI x y):=qV HE (lQ λ_ _ _ _=>.int _) Z Y
theorem qX(Z:SE X E a m)(Y:SE X E b n):SE X E (.BinOp a .Mult b pos) (λρ=>do let x<-m ρ;let y<-n ρ;uJ x y):=qV HF (nJ λ_ _ _ _=>.int _) Z Y
theorem zO(Z:SE X E a m)(Y:SE X E b n):SE X E (.BinOp a .FloorDiv b pos) (λρ=>do let x<-m ρ;let y<-n ρ;zN x y):=qV Fi (nJ λ_ _ _ _=>.int _) Z Y
theorem oD(Y:SE X E a m)(Z:SE X E b n):SE X E (.BinOp a .Mod b pos) (λρ=>do let x<-m ρ;let y<-n ρ;uK x y):=qV HG (nJ (C:=λ_ j=>0<j) λ_ _ _ _=>.int _) Y Z
theorem CS(Z:SE X E a m)(Y:SE X E b n):SE X E (.BinOp a .Pow b pos) (λρ=>do let x<-m ρ;let y<-n ρ;CQ x y):=qV HH (nJ λ_ _ _ _=>.int _) Z Y
theorem CT:jS X (u0 .Add) (λx y H Q=>∃a b ys,x= .ref a/\y= .ref b/\ot X.K H a []/\ot X.K H b ys/\Q (.ref b) H):=by
 intro pins s σ H x y v u Q I O F h;obtain⟨a,b,ys,rfl,rfl,B,J,q⟩:=h;cases O;cases F;obtain⟨its,A,C,_⟩:=I.tuple B;obtain⟨Y,z,L,_⟩:=I.tuple J;cases A;obtain⟨⟨cls,dd,data,N⟩,S,R,n,hd⟩:=id C;obtain⟨⟨P,T,data2,U⟩,Z,W,G,hd2⟩:=id L;simp only at R hd W hd2;subst R hd W hd2;exact So ⟨_,S,rfl⟩ ⟨_,Z,rfl⟩ Rv Sg Qn Qc (P7 _ _)
  (tuple_addW0 a b #[] Y.toArray n G dd T N U (by simp)) ⟨S,Z,⟨.ref b,H,I,rfl,q⟩⟩
theorem Inv.lstR{X:Cx}{Z:List (bc×Obj)}{W:L2.St}{H:Hp}{s:b_}{l:bc}{xs:List V}(I:L2.Inv X Z W H s)(Y:Rd H l (.lst xs)):xs.length<=sizeLine/\∃(its:List aC) (n:Nat),bg xs its/\xs.length=its.length/\s.heap.get? l=ar {cls:=.type "list",data:=.seq its.toArray n}:=by obtain⟨z,its,n,r,e⟩:=Y.ok I.hok;exact⟨z,its,n,r,r.length,e⟩
def Kz:R2:=λx y H Q=>∃l b xs zs,x= .ref l/\y= .ref b/\Rd H l (.lst xs)/\Rd H b (.lst zs)/\xs.length+zs.length<=sizeLine/\∀p,H p=none->Q (.ref p) (upd H p (.lst (xs++zs)))
theorem Fy:jS X (u0 .Add) Kz:=by
 intro pins s σ H x y v u Q I W U h;obtain⟨l,b,xs,zs,rfl,rfl,R,T,L,q⟩:=h;cases W;cases U;obtain⟨z,its,n,r,J,e⟩:=Inv.lstR I R;obtain⟨N,Z,K,O,S,e2⟩:=Inv.lstR I T;refine PySem.P.add_list e e2 ?_ (by rw[NA,NA];omega);have Y:its.toArray++Z.toArray=(its++Z).toArray:=by simp
 rw[Y];exact⟨.ref _,_,I.lnew (t':=s.toks) (r.append O) (by rw[Nn];omega),rfl,q _ I.fresh⟩
theorem cz(B:SE X E a m)(F:SE X E b n):SE X E (.BinOp a .Add b pos) (λρ=>do let x<-m ρ;let y<-n ρ;cy x y):=by
 refine qV (HD.or (Fo.or (CT.or Fy))) ?_ B F;intro ι S H G C v1 v2 Q rep P O c;cases G<;>cases C<;>first
  |exact(ah c).elim
  |exact .inl ⟨_,_,P.int_inv,O.int_inv,aq c .refl rep _ (.int _)⟩
  | (next xs ys=>
    obtain⟨p,vs,rfl,W,K⟩:=P.tup_inv;obtain⟨q,ws,rfl,U,N⟩:=O.tup_inv;obtain⟨Y,T⟩:=i4 c rep (K.append N);rw[Nn]at Y;cases vs with
    |nil=>
     refine .inr (.inr (.inl ⟨p,q,ws,rfl,rfl,.of W,.of U,?_⟩));exact kb c rep U (K.append N)
    |cons v vs=>
     refine .inr (.inl ⟨p,q,v::vs,ws,rfl,rfl,.of W,.of U,by simp,Nv Y ik,λz=>?_,λ_=>T⟩);subst z;have:=K.append N;rw[NT]at this;exact kb c rep W this)
  | (next j k=>
    obtain⟨p,rfl,W⟩:=P.lst_inv;obtain⟨q,rfl,U⟩:=O.lst_inv;obtain⟨ds,vs,_,L,R,c1⟩:=bh c rep W;obtain⟨es,ws,_,hw,Z,J⟩:=bh c1 rep U;obtain⟨Y,T⟩:=bW J rep (R.append Z);rw[Nn]at Y;exact .inr (.inr (.inr ⟨p,q,vs,ws,rfl,rfl,.inl L,.inl hw,Nv Y ik,T⟩)))
  | (next j ys=>
    obtain⟨p,rfl,W⟩:=P.lst_inv;obtain⟨q,o2,ws,rfl,U,Z⟩:=O.fz_inv;obtain⟨ds,vs,_,L,R,c1⟩:=bh c rep W;obtain⟨Y,T⟩:=bW c1 rep (R.append Z);rw[Nn]at Y;exact .inr (.inr (.inr ⟨p,q,vs,ws,rfl,rfl,.inl L,.inr ⟨o2,U⟩,Nv Y ik,T⟩)))
  | (next xs k=>
    obtain⟨p,I,vs,rfl,W,R⟩:=P.fz_inv;obtain⟨q,rfl,U⟩:=O.lst_inv;obtain⟨es,ws,_,hw,Z,J⟩:=bh c rep U;obtain⟨Y,T⟩:=bW J rep (R.append Z);rw[Nn]at Y;exact .inr (.inr (.inr ⟨p,q,vs,ws,rfl,rfl,.inr ⟨I,W⟩,.inl hw,Nv Y ik,T⟩)))
  | (next xs ys=>
    obtain⟨p,I,vs,rfl,W,R⟩:=P.fz_inv;obtain⟨q,o2,ws,rfl,U,Z⟩:=O.fz_inv;obtain⟨Y,T⟩:=bW c rep (R.append Z);rw[Nn]at Y;exact .inr (.inr (.inr ⟨p,q,vs,ws,rfl,rfl,.inr ⟨I,W⟩,.inr ⟨o2,U⟩,Nv Y ik,T⟩)))
theorem CU(Z:SE X E a m)(Y:SE X E b n):SB X E (.Compare a [.Gt] [b] pos) (λρ=>do let z<-(do let x<-m ρ;let y<-n ρ;GZ x y);kQ z):=mS Kh (lQ λ_ _ _ _=>.bl _) Z Y
theorem KB(Z:SE X E a m)(Y:SE X E b n):SB X E (.Compare a [.GtE] [b] pos) (λρ=>do let z<-(do let x<-m ρ;let y<-n ρ;Mt x y);kQ z):=mS Ki (lQ λ_ _ _ _=>.bl _) Z Y
def intsOf:List D->Option (List Int)
 |[]=>ar []
 | .int i::r=>(intsOf r).map (i::·)
 |_=>none
theorem i6{K:c_}{ι:List bc}{H:Hp}:∀{ds:List D} {vs:List V} {ns:List Int},RelDs K ι H ds vs->intsOf ds=ar ns->vs=ns.map V.int
 |[],vs,ns,h,e=>by cases e;rw[h.nil_inv];rfl
 | .int i::ds,vs,ns,h,e=>by
  obtain⟨v,ws,rfl,Y,Z⟩:=h.cons_inv;cases q:intsOf ds with
  |none=>simp[intsOf,q]at e
  |some ks=>
   simp[intsOf,q]at e;subst e;rw[Y.int_inv,i6 Z q];rfl
 | .non::_,_,_,_,e=>by cases e
 | .bl _::_,_,_,_,e=>by cases e
 | .str _::_,_,_,_,e=>by cases e
 | .tup _::_,_,_,_,e=>by cases e
 | .lst _::_,_,_,_,e=>by cases e
 | .ro _::_,_,_,_,e=>by cases e
 | .fz _::_,_,_,_,e=>by cases e
 | .emp::_,_,_,_,e=>by cases e
def qc:D->D->M D
 | .int i,.int j=>a_ (.bl (decide (i<j)))
 | .tup xs,.tup ys=>match intsOf xs,intsOf ys with
  |some ns,ar ms=>a_ (.bl (HT.lexLt ns ms))
  |_,_=>M.fail
 |_,_=>M.fail
theorem ym:tP X.K E qc (λx y H Q=>EZ (λi j=>.bl (decide (i<j))) x y H Q\/Kl X.K x y H Q):=by
 intro ι S H W U v1 v2 Q rep Z Y c;cases W<;>cases U<;>first
  |exact(ah c).elim
  |exact .inl ⟨_,_,Z.int_inv,Y.int_inv,aq c .refl rep _ (.bl _)⟩
  | (next xs ys=>
    obtain⟨p,vs,rfl,R,T⟩:=Z.tup_inv;obtain⟨q,ws,rfl,P,O⟩:=Y.tup_inv;dsimp only[qc]at c;split at c
    ·next ns ms e1 e2=>
     refine .inr ⟨p,q,ns,ms,rfl,rfl,.of (by rw[<-i6 T e1];exact R),.of (by rw[<-i6 O e2];exact P),aq c .refl rep _ (.bl _)⟩
    ·exact(ah c).elim)
theorem G0(Z:X.A.units<u3)(Y:SE X E a m)(W:SE X E b n):SE X E (.Compare a [.Lt] [b] pos) (λρ=>do let x<-m ρ;let y<-n ρ;qc x y):=yh (Ct.or (ya Z)) ym Y W
theorem tR(Z:X.A.units<u3)(Y:SE X E a m)(W:SE X E b n):SB X E (.Compare a [.Lt] [b] pos) (λρ=>do let z<-(do let x<-m ρ;let y<-n ρ;qc x y);kQ z):=mS (Ct.or (ya Z)) ym Y W
theorem wc(N:tP X.K E f r)(C:tP X.K E g r')
  (h:tM X.K E (λρ=>do let x<-m ρ;let y<-n ρ;let z<-f x y;let k<-kQ z;if k=cn then do let w<-l ρ;g y w else a_ (.bl dt)) σ H Q):xX r r' (tM X.K E m) (tM X.K E n) (tM X.K E l) σ H Q:=by
 obtain⟨ι,S,ρ,rep,re,c⟩:=h;refine⟨ι,S,ρ,rep,re,aw (ai c) λx Y S1 s e1 rep1 c1 v1 A=>?_⟩;refine⟨Y,S1,ρ,rep1,re.later rep e1,aw (ai c1) λy T S2 G e2 rep2 u v2 P=>?_⟩;refine N T S2 G x y v1 v2 _ rep2 (A.later rep1 e2) P (aw (ai u) λz W L q e3 rep3 c3 t J=>?_);obtain⟨k,rfl,rfl,R⟩:=uH rep3 J c3;refine⟨k,rfl,?_⟩;cases k with
 |true=>
  exact⟨W,L,ρ,rep3,((re.later rep e1).later rep1 e2).later rep2 e3,aw (ai R) λw U v F B Z I v4 O=>C U v F y w v2 v4 Q Z ((P.later rep2 e3).later rep3 B) O I⟩
 |false=>exact aq R .refl rep3 _ (.bl dt)
theorem CV(h:jS X (kr op) r)(h':jS X (kr op') r')(Y:tP X.K E f r)(Z:tP X.K E g r')(T:SE X E a m)(U:SE X E b n)(S:SE X E c l)
  (W:SC [op,op'] [b,c]=false:=by with_unfolding_all rfl):
  SE X E (.Compare a [op,op'] [b,c] pos) (λρ=>do let x<-m ρ;let y<-n ρ;let z<-f x y;let k<-kQ z;if k=cn then do let w<-l ρ;g y w else a_ (.bl dt)):=
 PE.imp (Cv h h' T U S W) λ_ _ _ q=>wc Y Z q
theorem CY(h:jS X (kr op) r)(h':jS X (kr op') r')(Z:tP X.K E f r)(P:tP X.K E g r')(T:SE X E a m)(Y:SE X E b n)(W:SE X E c l)
  (O:SC [op,op'] [b,c]=false:=by with_unfolding_all rfl):
  SB X E (.Compare a [op,op'] [b,c] pos) (λρ=>do let v<-(do let x<-m ρ;let y<-n ρ;let z<-f x y;let k<-kQ z;if k=cn then do let w<-l ρ;g y w else a_ (.bl dt));kQ v):=
 PT.imp (Cw h h' T Y W O) λσ H Q q=>by obtain⟨ι,S,ρ,rep,re,c⟩:=q;refine wc Z P (Q:=λx U=>∃k,x= .bl k/\Q k U) ⟨ι,S,ρ,rep,re,aw (ai c) λx R S1 J e1 rep1 c1 v1 N=>?_⟩;obtain⟨k,rfl,rfl,L⟩:=nG rep1 N c1;exact⟨k,rfl,L⟩
def bE:D->D->M D
 | .lst k,.int i=>do
  let xs<-getL k
  match jT xs i with
  |some d=>a_ d
  |none=>M.fail
 | .tup xs,.int i=>match jT xs i with
  |some d=>a_ d
  |none=>M.fail
 | .ro xs,.int i=>match jT xs i with
  |some d=>a_ d
  |none=>M.fail
 | .fz xs,.int i=>match jT xs i with
  |some d=>a_ d
  |none=>M.fail
 |_,_=>M.fail
theorem qd{K:c_}{ι:List bc}{H:Hp}{ds:List D}{vs:List V}{i:Int}{d:D}(h:RelDs K ι H ds vs)(e:jT ds i=ar d):∃v,jT vs i=ar v/\RelD K ι H d v:=by
 unfold jT at e⊢;rw[h.length]at e;cases q:xO vs.length i with
 |none=>rw[q]at e;cases e
 |some j=>
  rw[q]at e;exact h.get' e
theorem HZ:tP X.K E bE (MQ X.K):=by
 intro ι S H R P v1 v2 Q rep W U c;cases R<;>cases P<;>first
  |exact(ah c).elim
  | (next k i=>
    obtain⟨p,rfl,Y⟩:=W.lst_inv;obtain⟨ds,vs,_,T,Z,c1⟩:=bh c rep Y;cases q:jT ds i with
    |none=>rw[q]at c1;exact(ah c1).elim
    |some d=>
     rw[q]at c1;obtain⟨v,e1,e2⟩:=qd Z q;exact .inl ⟨p,vs,i,v,rfl,U.int_inv,.of T,e1,aq c1 .refl rep _ e2⟩)
  | (next ds i=>
    obtain⟨p,vs,rfl,Y,Z⟩:=W.tup_inv;dsimp only[bE]at c;cases q:jT ds i with
    |none=>rw[q]at c;exact(ah c).elim
    |some d=>
     rw[q]at c;obtain⟨v,e1,e2⟩:=qd Z q;exact .inr (.inl ⟨p,vs,i,v,rfl,U.int_inv,.of Y,e1,aq c .refl rep _ e2⟩))
  | (next ds i=>
    obtain⟨p,vs,rfl,Y,Z⟩:=W.ro_inv;dsimp only[bE]at c;cases q:jT ds i with
    |none=>rw[q]at c;exact(ah c).elim
    |some d=>
     rw[q]at c;obtain⟨v,e1,e2⟩:=qd Z q;exact .inl ⟨p,vs,i,v,rfl,U.int_inv,Y.sq,e1,aq c .refl rep _ e2⟩)
  | (next ds i=>
    obtain⟨p,o,vs,rfl,Y,Z⟩:=W.fz_inv;dsimp only[bE]at c;cases q:jT ds i with
    |none=>rw[q]at c;exact(ah c).elim
    |some d=>
     rw[q]at c;obtain⟨v,e1,e2⟩:=qd Z q;exact .inl ⟨p,vs,i,v,rfl,U.int_inv,.inl (.inr ⟨o,Y⟩),e1,aq c .refl rep _ e2⟩)
theorem aP(Y:SE X E a m)(Z:SE X E b n)(hs:uw b:=by intro _ _;rfl):SE X E (.Subscript a b pos) (λρ=>do let x<-m ρ;let y<-n ρ;bE x y):=Ku HQ HZ Y Z hs
end
mutual
inductive ReadsV(H:Hp):V->p4->Prop where
 |non:ReadsV H .non .none
 |bl (b:Bool):ReadsV H (.bl b) (.bool b)
 |int (i:Int):ReadsV H (.int i) (.int i)
 |str (x:Str):ReadsV H (.str x) (.str x)
 |lst {a:bc} {vs:List V} {ps:List p4}:Rd H a (.lst vs)->ReadsVs H vs ps->ReadsV H (.ref a) (.list ps)
 |tup {a:bc} {vs:List V} {ps:List p4}:H a=ar (.tup vs)->ReadsVs H vs ps->ReadsV H (.ref a) (.tuple ps)
inductive ReadsVs(H:Hp):List V->List p4->Prop where
 |nil:ReadsVs H [] []
 |cons {v:V} {p:p4} {vs:List V} {ps:List p4}:ReadsV H v p->ReadsVs H vs ps->ReadsVs H (v::vs) (p::ps)
end
mutual
theorem ReadsV.heap(Z:iG P w H h):∀{v:V} {p:p4},ReadsV H v p->∀{u:aC},RelV v u->∃as,Reads h u p as
 |_,_,.non,u,r=>by cases (show u=h_ from r);exact⟨_,.none⟩
 |_,_,.bl b,u,r=>by cases (show u=v_ b from r);exact⟨_,.bool b⟩
 |_,_,.int i,u,r=>by obtain⟨t,rfl⟩:=(show ∃t,u=r_ i t from r);exact⟨_,.int i t⟩
 |_,_,.str x,u,r=>by obtain⟨t,rfl⟩:=(show ∃t,u=R8 x t from r);exact⟨_,.str x t⟩
 |_,_,@ReadsV.lst _ a vs ps h1 h2,u,r=>by
  cases (show u=ee a from r);obtain⟨_,its,n,Y,e⟩:=(show bB P w H h a (.lst vs)from h1.ok Z);obtain⟨as,q⟩:=ReadsVs.heap Z h2 Y;exact⟨_,.list e rfl rfl (by simpa using q)⟩
 |_,_,@ReadsV.tup _ a vs ps h1 h2,u,r=>by
  cases (show u=ee a from r);obtain⟨_,its,Y,o,e,c,n,d⟩:=(show bB P w H h a (.tup vs)from Z a _ h1);obtain⟨as,q⟩:=ReadsVs.heap Z h2 Y;exact⟨_,.tuple e c d (by simpa using q)⟩
theorem ReadsVs.heap(Z:iG P w H h):∀{vs:List V} {ps:List p4},ReadsVs H vs ps->∀{us:List aC},bg vs us->∃as,ReadsAll h us ps as
 |_,_,.nil,us,r=>by cases r;exact⟨_,.nil⟩
 | _,_,.cons h1 h2,us,r=>by
  cases r with
  |cons r1 r2=>
   obtain⟨as,q⟩:=ReadsV.heap Z h1 r1;obtain⟨bs,Y⟩:=ReadsVs.heap Z h2 r2;exact⟨_,.cons q Y⟩
end
def mapP(f:D->Option p4):List D->Option (List p4)
 |[]=>ar []
 |d::ds=>match f d,mapP f ds with
  |some p,ar ps=>ar (p::ps)
  |_,_=>none
def gw(S:az):Nat->D->Option p4
 |_,.non=>ar .none
 |_,.bl b=>ar (.bool b)
 |_,.int i=>ar (.int i)
 |_,.str x=>if PyData.strOk x=cn then ar (.str x)else none
 |n+1,.tup ds=>(mapP (gw S n) ds).map .tuple
 |n+1,.lst k=>(S[k]?).bind λxs=>(mapP (gw S n) xs).map .list
 |n+1,.fz ds=>(mapP (gw S n) ds).map .list
 |_,_=>none
section
variable {K:c_}{ι:List bc}{S:az}{H:Hp}
theorem nL{f:D->Option p4}(Z:∀d p v,f d=ar p->RelD K ι H d v->ReadsV H v p/\p.canLay0=cn/\p.depth<=n):
  ∀{ds:List D} {ps:List p4} {vs:List V},mapP f ds=ar ps->RelDs K ι H ds vs->ReadsVs H vs ps/\PyData.canLayAll0 ps=cn/\mv ps<=n
 |[],ps,vs,e,r=>by
  cases e;rw[r.nil_inv];exact⟨.nil,rfl,NN _⟩
 | d ::ds,ps,vs,e,r=>by
  obtain⟨v,ws,rfl,X,R⟩:=r.cons_inv;unfold mapP at e;cases q:f d with
  |none=>rw[q]at e;cases e
  | some p=>
   rw[q]at e;cases q2:mapP f ds with
   |none=>rw[q2]at e;cases e
   | some ps'=>
    rw[q2]at e;cases e;obtain⟨T,Y,U⟩:=Z d p v q X;obtain⟨k1,k2,k3⟩:=nL Z q2 R;refine⟨.cons T k1,?_,?_⟩
    ·show(PyData.canLay0 p && PyData.canLayAll0 ps')=cn;rw[Y,k2];rfl
    ·show max p.depth (mv ps')<=n;exact Nat.max_le.mpr ⟨U,k3⟩
theorem jq(X:Rep K ι H S):∀(n:Nat) (d:D) (p:p4) (v:V),gw S n d=ar p->RelD K ι H d v->ReadsV H v p/\p.canLay0=cn/\p.depth<=n:=by
 intro n
 induction n with
 | zero=>
  intro d p v e r;cases d with
  |non=>cases e;rw[r.non_inv];exact⟨.non,rfl,Nq _⟩
  |bl b=>cases e;rw[r.bl_inv];exact⟨.bl b,rfl,Nq _⟩
  |int i=>cases e;rw[r.int_inv];exact⟨.int i,rfl,Nq _⟩
  |str x=>
   unfold gw at e;split at e
   ·next hs=>cases e;rw[r.str_inv];exact⟨.str x,hs,Nq _⟩
   ·cases e
  |_=>cases e
 | succ n ih=>
  intro d p v e r;cases d with
  |non=>cases e;rw[r.non_inv];exact⟨.non,rfl,NN _⟩
  |bl b=>cases e;rw[r.bl_inv];exact⟨.bl b,rfl,NN _⟩
  |int i=>cases e;rw[r.int_inv];exact⟨.int i,rfl,NN _⟩
  |str x=>
   unfold gw at e;split at e
   ·next hs=>cases e;rw[r.str_inv];exact⟨.str x,hs,NN _⟩
   ·cases e
  | tup ds=>
   obtain⟨a,vs,rfl,Z,Y⟩:=r.tup_inv;unfold gw at e;cases q:mapP (gw S n) ds with
   |none=>rw[q]at e;cases e
   |some ps=>
    rw[q]at e;cases e;obtain⟨k1,k2,k3⟩:=nL ih q Y;exact⟨.tup Z k1,k2,P0 k3⟩
  | lst k=>
   obtain⟨a,rfl,Z⟩:=r.lst_inv;unfold gw at e;cases z:S[k]? with
   |none=>rw[z]at e;cases e
   | some xs=>
    rw[z]at e;obtain⟨vs,U,Y⟩:=X.get k a xs Z z;cases q:mapP (gw S n) xs with
    |none=>simp[q]at e
    |some ps=>
     simp[q]at e;subst e;obtain⟨k1,k2,k3⟩:=nL ih q Y;exact⟨.lst (.inl U) k1,k2,P0 k3⟩
  |ro ds=>cases e
  | fz ds=>
   obtain⟨a,o,vs,rfl,Z,Y⟩:=r.fz_inv;unfold gw at e;cases q:mapP (gw S n) ds with
   |none=>rw[q]at e;cases e
   |some ps=>
    rw[q]at e;cases e;obtain⟨k1,k2,k3⟩:=nL ih q Y;exact⟨.lst (.inr ⟨o,Z⟩) k1,k2,P0 k3⟩
  |emp=>cases e
  |fn a c q ds vs=>cases e
  |exc x ds=>cases e
end
def Ia(f:p4->p4->Bool):D->D->M D:=λa b S=>match gw S 60 a,gw S 60 b with
 |some p,ar q=>ar (.ok (.bl (f p q)),S)
 |_,_=>none
def oE:D->D->M D:=Ia f_
def mB:D->D->M D:=Ia λp q=> !f_ p q
def Mu(f:Bool->Bool):p4->p4->Option Bool
 |d,.list xs=>ar (f (xs.any λy=>f_ y d))
 |d,.tuple xs=>ar (f (xs.any λy=>f_ y d))
 |_,_=>none
def JR(f:Bool->Bool):D->D->M D:=λa b S=>match gw S 60 a,gw S 60 b with
 |some p,ar q=>match Mu f p q with
  |some r=>ar (.ok (.bl r),S)
  |none=>none
 |_,_=>none
def inD:D->D->M D:=JR id
def mT:D->D->M D:=JR (!·)
section
variable {X:Cx}{E:XD}{a b e:Expr}{m n:TM}{pos:Pos}
def Ib(f:p4->p4->Bool):R2:=λx y H Q=>∃p q,(ReadsV H x p/\p.canLay0=cn/\p.depth<=60)/\(ReadsV H y q/\q.canLay0=cn/\q.depth<=60)/\Q (.bl (f p q)) H
theorem lR{p:p4}(h:p.canLay0=cn)(Z:p.depth<=60):SeqAt.shaped p=true:=by unfold SeqAt.shaped;rw[h,OF];exact NI (by omega)
theorem CZ(P:X.A.units+64<u3):jS X (kr .Eq) (Ib f_):=by intro pins s σ H x y v u Q I Z Y h;obtain⟨p,q,⟨S,W,L⟩,⟨U,O,T⟩,h⟩:=h;obtain⟨as,R⟩:=S.heap I.hok Z;obtain⟨bs,N⟩:=U.heap I.hok Y;exact eq_dataH R N (lR W L) (lR O T) P ⟨.bl _,H,I,rfl,h⟩
theorem C0(P:X.A.units+64<u3):jS X (kr .NotEq) (Ib λp q=> !f_ p q):=by intro pins s σ H x y v u Q I Z Y h;obtain⟨p,q,⟨S,W,L⟩,⟨U,O,T⟩,h⟩:=h;obtain⟨as,R⟩:=S.heap I.hok Z;obtain⟨bs,N⟩:=U.heap I.hok Y;exact ne_dataH R N (lR W L) (lR O T) P ⟨.bl _,H,I,rfl,h⟩
theorem qe:tP X.K E (Ia f) (Ib f):=by
 intro ι S H Z Y v1 v2 Q rep U W c;obtain⟨r,T,e,k⟩:=c;unfold Ia at e;split at e
 ·next p q hp hq=>
  cases e;exact⟨p,q,jq rep 60 Z p v1 hp U,jq rep 60 Y q v2 hq W,k ι H .refl rep _ (.bl _)⟩
 ·cases e
theorem zQ(Z:X.A.units+64<u3)(Y:SE X E a m)(W:SE X E b n):SE X E (.Compare a [.Eq] [b] pos) (λρ=>do let x<-m ρ;let y<-n ρ;oE x y):=yh (CZ Z) qe Y W
theorem we(Z:X.A.units+64<u3)(Y:SE X E a m)(W:SE X E b n):SB X E (.Compare a [.Eq] [b] pos) (λρ=>do let z<-(do let x<-m ρ;let y<-n ρ;oE x y);kQ z):=mS (CZ Z) qe Y W
theorem wg(Z:X.A.units+64<u3)(Y:SE X E a m)(W:SE X E b n):SB X E (.Compare a [.NotEq] [b] pos) (λρ=>do let z<-(do let x<-m ρ;let y<-n ρ;mB x y);kQ z):=mS (C0 Z) qe Y W
def Ie(f:Bool->Bool):R2:=λx y H Q=>∃p q r,(ReadsV H x p/\p.canLay0=cn/\p.depth<=60)/\(ReadsV H y q/\q.canLay0=cn/\q.depth<=60)/\Mu f p q=ar r/\Q (.bl r) H
theorem uL:tP X.K E (JR f) (Ie f):=by
 intro ι S H Z Y v1 v2 Q rep U W c;obtain⟨r,T,e,k⟩:=c;unfold JR at e;split at e
 ·next p q hp hq=>
  split at e
  ·next r hr=>
   cases e;exact⟨p,q,r,jq rep 60 Z p v1 hp U,jq rep 60 Y q v2 hq W,hr,k ι H .refl rep _ (.bl _)⟩
  ·cases e
 ·cases e
theorem mU(h:(wG xs).depth<=60):mv xs<=60:=Qt h
theorem lg(h:(I0 xs).depth<=60):mv xs<=60:=Qt h
theorem C1(L:X.A.units+64<u3):jS X (kr .In) (Ie id):=by
 intro pins s σ H x y v u Q I R P h;obtain⟨p,q,r,⟨N,Y,K⟩,⟨O,T,W⟩,Z,h⟩:=h;obtain⟨as,U⟩:=N.heap I.hok R;obtain⟨bs,S⟩:=O.heap I.hok P;cases q with
 |list xs=>
  cases Z;exact SeqAt.in_list_reads S U T Y (by have:=mU W;have:min (mv xs) p.depth<=60:=Nv (PM _ _) this;omega) ⟨.bl _,H,I,rfl,h⟩
 |tuple xs=>
  cases Z;exact SeqAt.in_tuple_reads S U T Y (by have:=lg W;have:min (mv xs) p.depth<=60:=Nv (PM _ _) this;omega) ⟨.bl _,H,I,rfl,h⟩
 |_=>cases Z
theorem Ba(L:X.A.units+64<u3):jS X (kr .NotIn) (Ie (!·)):=by
 intro pins s σ H x y v u Q I R P h;obtain⟨p,q,r,⟨N,Y,K⟩,⟨O,T,W⟩,Z,h⟩:=h;obtain⟨as,U⟩:=N.heap I.hok R;obtain⟨bs,S⟩:=O.heap I.hok P;cases q with
 |list xs=>
  cases Z;exact SeqAt.notIn_list_reads S U T Y (by have:=mU W;have:min (mv xs) p.depth<=60:=Nv (PM _ _) this;omega) ⟨.bl _,H,I,rfl,h⟩
 |tuple xs=>
  cases Z;exact SeqAt.notIn_tuple_reads S U T Y (by have:=lg W;have:min (mv xs) p.depth<=60:=Nv (PM _ _) this;omega) ⟨.bl _,H,I,rfl,h⟩
 |_=>cases Z
theorem C3(Y:X.A.units+64<u3)(U:SE X E a m)(Z:SE X E b n)(W:mh .In b=false:=by rfl):SE X E (.Compare a [.In] [b] pos) (λρ=>do let x<-m ρ;let y<-n ρ;inD x y):=yh (C1 Y) uL U Z W
theorem wj(Y:X.A.units+64<u3)(U:SE X E a m)(Z:SE X E b n)(W:mh .In b=false:=by rfl):SB X E (.Compare a [.In] [b] pos) (λρ=>do let z<-(do let x<-m ρ;let y<-n ρ;inD x y);kQ z):=mS (C1 Y) uL U Z W
theorem qY(Y:X.A.units+64<u3)(U:SE X E a m)(Z:SE X E b n)(W:mh .NotIn b=false:=by rfl):SB X E (.Compare a [.NotIn] [b] pos) (λρ=>do let z<-(do let x<-m ρ;let y<-n ρ;mT x y);kQ z):=mS (Ba Y) uL U Z W
end
section
variable {X:Cx}{E:XD}{a b e c:Expr}{m n l:TM}{pos p2:Pos}{es:List Expr}{ms:aF->M (List D)}
def MS:D->M Int
 | .int i=>a_ i
 |_=>M.fail
def M9(K:c_)(E:XD)(m:aF->M (Option Int)):TO:=λσ H Q=>∃ ι S ρ,Rep K ι H S/\RelE K ι H ρ σ/\cont K E (m ρ) ι S H (λo _ _ H'=>Q o H')
def SO(X:Cx)(E:XD)(o:Option Expr)(m:aF->M (Option Int)):Prop:=PO X o (M9 X.K E m)
theorem PO.imp{X:Cx}{e:Option Expr}{t t':TO}(h:PO X e t)(k:∀ σ H Q,t' σ H Q->t σ H Q):PO X e t':=λpins s σ H Q I hw=>h pins s σ H Q I (k σ H Q hw)
theorem qf:SO X E none (λ_=>a_ none):=by refine PO.imp Fm λσ H Q h=>?_;obtain⟨ι,S,ρ,rep,re,c⟩:=h;exact aq c .refl rep
theorem qg(h:SE X E e m):SO X E (ar e) (λρ=>do let x<-m ρ;let i<-MS x;a_ (ar i)):=by
 refine PO.imp (Fn h) λσ H Q h=>?_;obtain⟨ι,S,ρ,rep,re,c⟩:=h;refine⟨ι,S,ρ,rep,re,aw (ai c) λx Z S1 Y e1 rep1 c1 v r=>?_⟩;cases x with
 |int i=>exact⟨i,r.int_inv,aq (aq (ai c1) .refl rep1) .refl rep1⟩
 |_=>exact(ah (ai c1)).elim
def cutD(xs:List D)(lo hi:Option Int):List D:=(xs.drop (HT.sIx xs.length 0 lo)).take (HT.sIx xs.length xs.length hi - HT.sIx xs.length 0 lo)
theorem qh{K:c_}{ι:List bc}{H:Hp}{ds:List D}{vs:List V}(Y Z:Option Int)(h:RelDs K ι H ds vs):RelDs K ι H (cutD ds Y Z) (sL vs Y Z):=by unfold cutD sL;rw[h.length];exact(h.drop _).take _
def uM:D->Option Int->Option Int->M D
 | .tup xs,lo,hi=>bP (cutD xs lo hi)
 | .lst k,lo,hi=>do let xs<-getL k;bx (cutD xs lo hi)
 | .fz xs,lo,hi=>bx (cutD xs lo hi)
 |_,_,_=>M.fail
theorem Fz:GX X (λx lo T H Q=>∃a xs,x= .ref a/\ot X.K H a xs/\(HT.sIx xs.length 0 lo=0/\HT.sIx xs.length xs.length T=xs.length)/\Q (.ref a) H):=by
 intro pins s σ H x v J G lo T R Q I S hs O pu h;obtain⟨a,xs,rfl,N,hw,q⟩:=h;cases S;obtain⟨its,r,Z,L⟩:=I.tuple N;have hlen:its.toArray.size=xs.length:=by rw[NA];exact r.length.symm
 refine⟨"tuple",_,PyProof.Rows.slot_tuple_getitem.lookup,Z.typeIs,?_⟩;have fin:EP X pins σ Q (.ref a) s:=⟨.ref a,H,I,rfl,q⟩;obtain⟨os,Y,U,P⟩:=id hs;have W:s.TypeIs (.ref R) "slice":=⟨os,Y,U⟩;unfold Sr
 try with_reducible refine Oi ?_
 first|refine Nk (Nr ?_)|skip
 refine Nk (wpAny_sequenceKey Z.typeIs (by decide) ?_);refine Nk (wpAny_callSpecial?_slot (name:=i_ "__getitem__") Z.typeIs OO
  (Os OO Z.typeIs entry_tuple_getitem ?_ (args_tuple_getitem _ _)))
 show ed _ _ (Builtin.Tuple.tupleItemsOf (.ref a)>>=_) _ _ s;refine Nk (tupleItemsOf_ Z (Nk (Qy W ?_)));rw[if_pos (by decide)];refine Nk (HT.sliceApplied_gen hs O pu ?_);rw[hlen,hw.1,hw.2];show ed _ _ (if ((((0:Nat):Int))==0 && (1:Int)==1 && (xs.length - 0)==xs.length)=cn then _ else _) _ _ s;rw[if_pos (by simp)];unfold Builtin.Tuple.tupleIsExact;refine Nk (Nk (Qy Z.typeIs (Nr ?_)));rw[if_pos (by decide)];first
  |exact Nk (P6 (Nr ⟨_,rfl,Nr fin⟩))
  |exact Nk (P6 (Nk (Nr (Nr ⟨_,rfl,Nr fin⟩))))
theorem yn{xs:List V}{Z Y:Option Int}(h:HT.sIx xs.length 0 Z=0/\HT.sIx xs.length xs.length Y=xs.length):sL xs Z Y=xs:=by unfold sL;rw[h.1,h.2,RH,Nat.sub_zero,List.take_length]
theorem nM{P O:Option Expr}{ml R:aF->M (Option Int)}(C:SE X E e m)(J:SO X E P ml)(K:SO X E O R):
  SE X E (.Subscript e (.Slice P O none p2) pos) (λρ=>do let x<-m ρ;let i<-ml ρ;let j<-R ρ;uM x i j):=by
 refine PE.imp (CC (HM.or (Fz.or Fq)) C J K) λσ H Q h=>?_;obtain⟨ι,S,ρ,rep,re,c⟩:=h;refine⟨ι,S,ρ,rep,re,aw (ai c) λx Y S1 z e1 rep1 c1 v r=>?_⟩;refine⟨Y,S1,ρ,rep1,re.later rep e1,aw (ai c1) λi T S2 A e2 rep2 F=>?_⟩;refine⟨T,S2,ρ,rep2,(re.later rep e1).later rep1 e2,aw (ai F) λj L B y e3 rep3 c3=>?_⟩;have W:=(r.later rep1 e2).later rep2 e3;cases x with
 | tup ds=>
  obtain⟨p,vs,rfl,Z,N⟩:=W.tup_inv;by_cases hw:HT.sIx vs.length 0 i=0/\HT.sIx vs.length vs.length j=vs.length
  ·refine .inr (.inl ⟨p,vs,rfl,.of Z,hw,kb c3 rep3 Z ?_⟩);have:=qh i j N;rw[yn hw]at this;exact this
  ·exact .inl ⟨p,vs,rfl,.of Z,hw,(i4 c3 rep3 (qh i j N)).2⟩
 |lst k=>
  obtain⟨p,rfl,Z⟩:=W.lst_inv;obtain⟨ds,vs,_,I,U,G⟩:=bh c3 rep3 Z;exact .inr (.inr ⟨p,vs,rfl,.of I,(bW G rep3 (qh i j U)).2⟩)
 |fz ds=>
  obtain⟨p,o,vs,rfl,Z,U⟩:=W.fz_inv;exact .inr (.inr ⟨p,vs,rfl,.inl (.inr ⟨o,Z⟩),(bW c3 rep3 (qh i j U)).2⟩)
 |_=>exact(ah c3).elim
end
section
variable {X:Cx}{E:XD}{a b e c o:Expr}{m n l:TM}{pos p2:Pos}{es:List Expr}{ms:aF->M (List D)}
def dm:List D->M D
 |[.lst k]=>do let xs<-getL k;a_ (.int xs.length)
 |[.tup ds]=>a_ (.int ds.length)
 |[.ro ds]=>a_ (.int ds.length)
 |[.fz ds]=>a_ (.int ds.length)
 |_=>M.fail
theorem Bb:nI X.K E dm (λxs H Q=>∃p ys,xs=[.ref p]/\(kS X.K H p ys\/ot X.K H p ys)/\Q (.int ys.length) H):=by
 intro ι S H ds vs Q rep r c
 match ds,r,c with
 |[.lst k],r,c=>
  obtain⟨v,ws,rfl,W,U⟩:=r.cons_inv;cases U.nil_inv;obtain⟨p,rfl,Y⟩:=W.lst_inv;obtain⟨es,us,_,T,Z,R⟩:=bh c rep Y;refine⟨p,us,rfl,.inl (.of T),?_⟩;have:=aq R .refl rep _ (.int _);rw[Z.length]at this;exact this
 |[.tup es],r,c=>
  obtain⟨v,ws,rfl,W,U⟩:=r.cons_inv;cases U.nil_inv;obtain⟨p,us,rfl,Y,Z⟩:=W.tup_inv;refine⟨p,us,rfl,.inr (.of Y),?_⟩;have:=aq c .refl rep _ (.int _);rw[Z.length]at this;exact this
 |[.ro es],r,c=>
  obtain⟨v,ws,rfl,W,U⟩:=r.cons_inv;cases U.nil_inv;obtain⟨p,us,rfl,Y,Z⟩:=W.ro_inv;refine⟨p,us,rfl,.inl Y.sq,?_⟩;have:=aq c .refl rep _ (.int _);rw[Z.length]at this;exact this
 |[.fz es],r,c=>
  obtain⟨v,ws,rfl,W,U⟩:=r.cons_inv;cases U.nil_inv;obtain⟨p,o,us,rfl,Y,Z⟩:=W.fz_inv;refine⟨p,us,rfl,.inl (.inl (.inr ⟨o,Y⟩)),?_⟩;have:=aq c .refl rep _ (.int _);rw[Z.length]at this;exact this
 |[],r,c=>exact(ah c).elim
 |[.non],r,c=>exact(ah c).elim
 |[.bl _],r,c=>exact(ah c).elim
 |[.int _],r,c=>exact(ah c).elim
 |[.str _],r,c=>exact(ah c).elim
 |[.emp],r,c=>exact(ah c).elim
 |d::d2::r',r,c=>cases d<;>exact(ah c).elim
theorem fM(Y:X.mg "len"=none)(W:SE X E e m)(Z:Gl X "len":=by rfl)(hs:dV [e] X.env=[(dt,hO e X.env)]:=by rfl):SE X E (.Call (.Name "len" p) [e] [] pos) (λρ=>do let ds<-(do let x<-m ρ;let xs<-a_ [];a_ (x::xs));dm ds):=
 jW uy Bb Z Y PySem.boot_len (af W ak hs) (by decide) (by decide) hs rfl
def zR(f:Int->Int->Int):List D->M D
 |[.int i,.int j]=>a_ (.int (f i j))
 |_=>M.fail
theorem qZ{f:Int->Int->Int}:nI X.K E (zR f) (λxs H Q=>∃i j,xs=[.int i,.int j]/\Q (.int (f i j)) H):=by
 intro ι S H ds vs Q rep r c;unfold zR at c;split at c
 ·next i j=>
  obtain⟨v,ws,rfl,U,T⟩:=r.cons_inv;obtain⟨R,W,rfl,Z,Y⟩:=T.cons_inv;cases Y.nil_inv;rw[U.int_inv,Z.int_inv];exact⟨i,j,rfl,aq c .refl rep _ (.int _)⟩
 ·exact(ah c).elim
def maxD:List D->M D:=zR λi j=>if j>i then j else i
def minD:List D->M D:=zR λi j=>if j<i then j else i
theorem oF(T:X.calm=cn)(W:X.mg "max"=none)(U:SA X E [a,b] ms)(Y:Gl X "max":=by rfl)(hs:dV [a,b] X.env=[(dt,hO a X.env),(dt,hO b X.env)]:=by rfl)(Z:dV [b] X.env=[(dt,hO b X.env)]:=by rfl):
  SE X E (.Call (.Name "max" p) [a,b] [] pos) (λρ=>do let ds<-ms ρ;maxD ds):=
 jW (AY T) qZ Y W (by decide+kernel) U (by decide) (by decide) (by rw[hs,Z]) (by rw[Z];rfl)
theorem oG(T:X.calm=cn)(W:X.mg "min"=none)(U:SA X E [a,b] ms)(Y:Gl X "min":=by rfl)(hs:dV [a,b] X.env=[(dt,hO a X.env),(dt,hO b X.env)]:=by rfl)(Z:dV [b] X.env=[(dt,hO b X.env)]:=by rfl):
  SE X E (.Call (.Name "min" p) [a,b] [] pos) (λρ=>do let ds<-ms ρ;minD ds):=
 jW (AZ T) qZ Y W (by decide+kernel) U (by decide) (by decide) (by rw[hs,Z]) (by rw[Z];rfl)
def gx:List D->M D
 |[.lst k]=>do let xs<-getL k;bP xs
 |[.tup ds]=>bP ds
 |[.fz ds]=>bP ds
 |_=>M.fail
theorem wk:nI X.K E gx (λxs H Q=>∃p ys,xs=[.ref p]/\((kS X.K H p ys/\∀l,H l=none->Q (.ref l) (upd H l (.tup ys)))\/(ot X.K H p ys/\Q (.ref p) H))):=by
 intro ι S H ds vs Q rep r c;unfold gx at c;split at c
 ·next k=>
  obtain⟨v,ws,rfl,W,U⟩:=r.cons_inv;cases U.nil_inv;obtain⟨p,rfl,Z⟩:=W.lst_inv;obtain⟨es,us,_,T,Y,R⟩:=bh c rep Z;exact⟨p,us,rfl,.inl ⟨.of T,(i4 R rep Y).2⟩⟩
 ·next es=>
  obtain⟨v,ws,rfl,W,U⟩:=r.cons_inv;cases U.nil_inv;obtain⟨p,us,rfl,Z,Y⟩:=W.tup_inv;exact⟨p,us,rfl,.inr ⟨.of Z,kb c rep Z Y⟩⟩
 ·next es=>
  obtain⟨v,ws,rfl,W,U⟩:=r.cons_inv;cases U.nil_inv;obtain⟨p,o,us,rfl,Z,Y⟩:=W.fz_inv;exact⟨p,us,rfl,.inl ⟨.inl (.inr ⟨o,Z⟩),(i4 c rep Y).2⟩⟩
 ·exact(ah c).elim
theorem jY(Y:X.mg "tuple"=none)(W:SE X E e m)(Z:Gl X "tuple":=by rfl)(hs:dV [e] X.env=[(dt,hO e X.env)]:=by rfl):SE X E (.Call (.Name "tuple" p) [e] [] pos) (λρ=>do let ds<-(do let x<-m ρ;let xs<-a_ [];a_ (x::xs));gx ds):=
 A9 sN wk Z Y (by decide+kernel) (af W ak hs) (by decide) (by decide) hs rfl
def FA(H:Hp):V->Option String
 | .non=>ar "NoneType"
 | .bl _=>ar "bool"
 | .int _=>ar "int"
 | .str _=>ar "str"
 | .ref a=>match H a with
  |some (.lst _)=>ar "list"
  |some (.frz _ (.lst _))=>ar "list"
  |some (.tup _)=>ar "tuple"
  |some (.dK _)=>ar "dict"
  |_=>none
 |_=>none
theorem C4{K:c_}{H:Hp}{v:V}{T:String}(h:FA H v=ar T):TyOf K H v (.type T):=by
 cases v with
 |non=>cases h;exact .non
 |bl b=>cases h;exact .bl b
 |int i=>cases h;exact .int i
 |str x=>cases h;exact .str x
 |ref a=>
  simp only[FA]at h;split at h
  ·next q=>cases h;exact .lst q
  ·next q=>cases h;exact .frz q
  ·next q=>cases h;exact .tup q
  ·next q=>cases h;exact .dK q
  ·cases h
 |_=>cases h
def C5:D->String
 | .non=>"NoneType"
 | .bl _=>"bool"
 | .int _=>"int"
 | .str _=>"str"
 | .tup _=>"tuple"
 | .lst _=>"list"
 | .ro _=>"list"
 | .fz _=>"list"
 | .emp=>"dict"
 | .fn _ _ _ _ _=>"NoneType"
 | .exc _ _=>"NoneType"
def Ig:D->Bool
 | .ro _=>dt
 | .fn _ _ _ _ _=>dt
 | .exc _ _=>dt
 |_=>cn
theorem C6{K:c_}{ι:List bc}{S:az}{H:Hp}{d:D}{v:V}(Y:Rep K ι H S)(r:RelD K ι H d v)(Z:Ig d=cn):FA H v=ar (C5 d):=by
 cases r with
 |non=>rfl
 |bl=>rfl
 |int=>rfl
 |str=>rfl
 |tup h _=>simp[FA,h,C5]
 |lst h=>
  obtain⟨vs,e⟩:=Y.isL (N4 h);simp[FA,e,C5]
 |ro h _=>cases Z
 |fz h _=>simp[FA,h,C5]
 |emp h=>simp[FA,h,C5]
 |fn=>cases Z
 |exc=>cases Z
 |excF=>cases Z
def C7(f:String->Bool):D->M D
 | .ro _=>M.fail
 | .fn _ _ _ _ _=>M.fail
 | .exc _ _=>M.fail
 |d=>a_ (.bl (f (C5 d)))
theorem wm{K:c_}{E:XD}{ι:List bc}{S:az}{H:Hp}{f:String->Bool}{d:D}{Q:D->List bc->az->Hp->Prop}(c:cont K E (C7 f d) ι S H Q):Ig d=cn/\cont K E (a_ (.bl (f (C5 d)))) ι S H Q:=by
 cases d with
 |ro ds=>exact(ah c).elim
 |fn a c' q ds vs=>exact(ah c).elim
 |exc x ds=>exact(ah c).elim
 |_=>exact⟨rfl,c⟩
def jm(t T:String):Bool:=t==T||(t=="bool" && T=="int")
theorem uN(K:c_)(t:String)(Y:t∈["NoneType","bool","int","str","tuple","list","dict"])(T:String)(Z:T∈["bool","int","str","tuple","list"]):sb K (.type t) (.type T)=ar (jm t T):=by simp only[gc,fc,or_false]at Y Z;rcases Y with rfl|rfl|rfl|rfl|rfl|rfl|rfl<;>rcases Z with rfl|rfl|rfl|rfl|rfl<;>rfl
theorem zS(d:D):C5 d∈["NoneType","bool","int","str","tuple","list","dict"]:=by cases d<;>simp[C5]
theorem C8:d7 X (.builtin "isinstance") (λxs H Q=>∃x t T,xs=[x,.ty T]/\FA H x=ar t/\t∈["NoneType","bool","int","str","tuple","list","dict"]/\T∈["bool","int","str","tuple","list"]/\Q (.bl (jm t T)) H):=by intro pins s σ H xs us Q I r h;obtain⟨x,t,T,rfl,S,P,U,q⟩:=h;obtain⟨u,W,rfl,Y,Z⟩:=vals2 r;cases (show W=y3 T from Z);exact A1 I Y (C4 S) (uN X.K t P T U) λR=>⟨.bl _,H,I.tok R,rfl,q⟩
theorem jG{p q:Pos}{T:Str}{Ts:String}(L:X.mg "isinstance"=none)(R:X.mg T=none)(J:SE X E e m)(P:lz T=ar (.type Ts):=by decide+kernel)(W:Ts∈["bool","int","str","tuple","list"]:=by decide)(N:Gl X "isinstance":=by rfl)(U:Gl X T:=by rfl)
  (K:T≠"__name__":=by decide) (Y:(T==("__debug__":Str))=false:=by decide)
  (hs:dV [e,.Name T q] X.env=[(dt,hO e X.env),(dt,hO (.Name T q) X.env)]:=by rfl) (Z:dV [.Name T q] X.env=[(dt,hO (.Name T q) X.env)]:=by rfl):
  SE X E (.Call (.Name "isinstance" p) [e,.Name T q] [] pos) (λρ=>do let x<-m ρ;C7 (λt=>jm t Ts) x):=by
 refine PE.imp (kT C8 N L (by decide+kernel) (eT J (eT (qb U R P (v:=.ty Ts) rfl K Y) j8 Z) (by rw[hs,Z])) (by decide) (by decide) (by rw[hs,Z]) (by rw[Z];rfl)) λσ H Q h=>?_;obtain⟨ι,S,ρ,rep,re,c⟩:=h;refine⟨ι,S,ρ,rep,re,aw (ai c) λx O S1 I e1 rep1 c1 v r=>?_⟩;obtain⟨Y,c1⟩:=wm c1;exact⟨v,C5 x,Ts,rfl,C6 rep1 r Y,zS x,W,aq c1 .refl rep1 _ (.bl _)⟩
theorem Bc:d7 X (.builtin "isinstance") (λxs H Q=>∃x t p T U,xs=[x,.ref p]/\H p=ar (.tup [.ty T,.ty U])/\FA H x=ar t/\t∈["NoneType","bool","int","str","tuple","list","dict"]/\T∈["bool","int","str","tuple","list"]/\U∈["bool","int","str","tuple","list"]/\
  Q (.bl (jm t T||jm t U)) H):=by
 intro pins s σ H xs us Q I r h;obtain⟨x,t,p,T,U,rfl,v,Z,R,G,F,q⟩:=h;obtain⟨u,J,rfl,Y,P⟩:=vals2 r;cases (show J=ee p from P);obtain⟨_,its,B,⟨cls,dd,data,j⟩,S,N,n,hd⟩:=(show bB X.prog X.w H s.heap p (.tup [.ty T,.ty U])from I.hok p _ v);simp only at N hd;subst N hd;obtain⟨A,L,rfl,k,C⟩:=vals2 B;cases (show A=y3 T from k);cases (show L=y3 U from C);have e:Tg X.K (.type t) [.type T,.type U]=ar (jm t T||jm t U):=by unfold Tg Tg Tg;rw[uN X.K t R T G,uN X.K t R U F];cases jm t T<;>cases jm t U<;>rfl
 have fin:∀O,EP X pins σ Q (.bool (jm t T||jm t U)) {s with toks:=O}:=λO=>⟨.bl _,H,I.tok O,rfl,q⟩;have ty:=C4 (K:=X.K) Z;generalize hT:y3 t=tv at ty e;cases ty with
 |non=>cases (show u=h_ from Y);exact OJ Q6 I.kIn q0 S e (λz=>nomatch z) fin
 |bl y=>cases (show u=v_ y from Y);exact OJ W.kitx_bool I.kIn q0 S e (λz=>nomatch z) fin
 |int i=>obtain⟨t,q⟩:=(show ∃t,u=r_ i t from Y);cases q;exact OJ W.kitx_int I.kIn q0 S e (λz=>nomatch z) fin
 |str y=>obtain⟨t,q⟩:=(show ∃t,u=R8 y t from Y);cases q;exact OJ W.kitx_str I.kIn q0 S e (λz=>nomatch z) fin
 |flt y=>obtain⟨t,q⟩:=(show ∃t,u=SL y t from Y);cases q;exact OJ W.kitx_float I.kIn q0 S e (λz=>nomatch z) fin
 | @lst a xs ea=>
  cases (show u=ee a from Y);obtain⟨_,_,n,_,Z⟩:=(show bB X.prog X.w H s.heap a (.lst xs)from I.hok a _ ea);exact OJ Qq I.kIn ⟨_,Z,rfl⟩ S e (λz=>nomatch z) fin
 | @frz a ob xs ea=>
  cases (show u=ee a from Y);obtain⟨_,_,_,n,_,Z⟩:=(show bB X.prog X.w H s.heap a (.frz ob (.lst xs))from I.hok a _ ea);exact OJ Qq I.kIn ⟨_,Z,rfl⟩ S e (λz=>nomatch z) fin
 | @tup a xs ea=>
  cases (show u=ee a from Y);obtain⟨_,_,_,o,Z,R,_⟩:=(show bB X.prog X.w H s.heap a (.tup xs)from I.hok a _ ea);exact OJ W.kitx_tuple I.kIn ⟨o,Z,R⟩ S e (λz=>nomatch z) fin
 | @dK a kvs ea=>
  cases (show u=ee a from Y);obtain⟨_,_,vs,_,o,es,ep,Z,R,_⟩:=(show bB X.prog X.w H s.heap a (.dK kvs)from I.hok a _ ea);exact OJ Qs I.kIn ⟨o,Z,R.1⟩ S e (λz=>nomatch z) fin
 | @dT a kvs ea=>
  cases (show u=ee a from Y);obtain⟨_,_,xs,_,o,es,ep,Z,R,_⟩:=(show bB X.prog X.w H s.heap a (.dT kvs)from I.hok a _ ea);exact OJ Qs I.kIn ⟨o,Z,R.1⟩ S e (λz=>nomatch z) fin
 |ins=>cases hT
theorem FB{p q W R:Pos}{x1}{T U:Str}{Ts Us:String}(z:X.mg "isinstance"=none)(F:X.mg T=none)(C:X.mg U=none)(s:SE X E e m)(y:lz T=ar (.type Ts):=by decide+kernel)(J:lz U=ar (.type Us):=by decide+kernel)
  (L:Ts∈["bool","int","str","tuple","list"]:=by decide) (P:Us∈["bool","int","str","tuple","list"]:=by decide) (w:Gl X "isinstance":=by rfl) (G:Gl X T:=by rfl) (O:Gl X U:=by rfl)
  (u:T≠"__name__":=by decide) (N:(T==("__debug__":Str))=false:=by decide) (K:U≠"__name__":=by decide) (I:(U==("__debug__":Str))=false:=by decide)
  (hs:dV [e,.Tuple [.Name T q,.Name U W] x1 R] X.env=[(dt,hO e X.env),(dt,hO (.Tuple [.Name T q,.Name U W] x1 R) X.env)]:=by rfl) (Z:dV [.Tuple [.Name T q,.Name U W] x1 R] X.env=[(dt,hO (.Tuple [.Name T q,.Name U W] x1 R) X.env)]:=by rfl):
  SE X E (.Call (.Name "isinstance" p) [e,.Tuple [.Name T q,.Name U W] x1 R] [] pos) (λρ=>do let x<-m ρ;C7 (λt=>jm t Ts||jm t Us) x):=by
 refine PE.imp (kT Bc w z (by decide+kernel) (eT s (eT (Cy (eT (qb G F y (v:=.ty Ts) rfl u N) (eT (qb O C J (v:=.ty Us) rfl K I) j8 rfl) rfl)) j8 Z) (by rw[hs,Z])) (by decide) (by decide) (by rw[hs,Z]) (by rw[Z];rfl)) λσ H Q h=>?_;obtain⟨ι,S,ρ,rep,re,c⟩:=h;refine⟨ι,S,ρ,rep,re,aw (ai c) λx Y S1 A e1 rep1 c1 v r=>?_⟩;obtain⟨N,c1⟩:=wm c1;refine⟨by show 2<=sizeLine;decide,λp B=>?_⟩;have rep2:=iJ (o:=.tup [.ty Ts,.ty Us]) rep1 B;have e2:Ext Y A Y (upd A p (.tup [.ty Ts,.ty Us])):=fU B;exact⟨v,C5 x,p,Ts,Us,rfl,a8,C6 rep2 (r.later rep1 e2) N,zS x,L,P,aq c1 e2 rep2 _ (.bl _)⟩
end
section
variable {X:Cx}{E:XD}{a b e c o tg:Expr}{m n l:TM}{pos p2:Pos}{es:List Expr}{ms:aF->M (List D)}
theorem range_all{bs:List Bool}:(d_ bs.length).all (λi=>bs.getD i dt)=bs.all id:=by
 induction bs with
 |nil=>rfl
 |cons b bs ih=>
  rw[NU,Qo,Si,QA];simp only[List.getD_cons_zero,Si,id];congr 1
theorem Bd(L:X.calm=cn):d7 X (.builtin "all") (λxs H Q=>∃(p:bc) (bs:List Bool),xs=[.ref p]/\kS X.K H p (bs.map V.bl)/\Q (.bl (bs.all id)) H):=by
 intro pins s σ H xs us Q I r h;obtain⟨p,bs,rfl,G,q⟩:=h;obtain⟨u,rfl,O⟩:=vals1 r;cases (show u=ee p from O);obtain⟨its,S,C,B⟩:=I.list G;have U:=C.isList;refine call_all_walk (Qp U ?_);have T:p<s.heap.objs.size:=by obtain⟨o,P,_⟩:=U;exact Nu P
 have hlen:=S.length;refine⟨s.heap.objs.size,_,_,_,_,_,λi=>bs.getD i dt,rfl,Th (A:=X.A.in1) (by show X.A.handled=none;exact I.ok.hd L) s.heap.objs.size p (NB T) its.toArray,⟨⟨_,Nw _ rfl,rfl,rfl⟩,U.push _⟩,?_,λh' z F=>?_⟩
 ·intro i v s' w x J W;have Y:its[i]? =ar v:=by simpa using J
  have y:i<its.length:=(Nt.mp Y).1;have Z:i<bs.length:=by rw[Nl]at hlen;omega
  have:(bs.map V.bl)[i]? =ar (.bl bs[i]):=by rw[NM,Np Z];rfl
  obtain⟨u,R,N⟩:=S.get this;rw[Y]at R;cases R;cases (show v=v_ bs[i]from N);have:bs.getD i dt=bs[i]:=by simp[List.getD,Z]
  dsimp only at W;rw[this]at W;exact OG W
 ·have e1:its.toArray.size=bs.length:=by rw[NA, <-hlen,Nl]
  rw[e1,range_all];refine⟨.bl _,H,I.kept (λb o e=>F b o ?_ (Nm _ e)),rfl,q⟩;have:b≠s.heap.objs.size:=NB (Nu e);simpa using this
def boolsOf:List D->Option (List Bool)
 |[]=>ar []
 | .bl i::r=>(boolsOf r).map (i::·)
 |_=>none
theorem g9{K:c_}{ι:List bc}{H:Hp}:∀{ds:List D} {vs:List V} {ns:List Bool},RelDs K ι H ds vs->boolsOf ds=ar ns->vs=ns.map V.bl
 |[],vs,ns,h,e=>by cases e;rw[h.nil_inv];rfl
 | .bl i::ds,vs,ns,h,e=>by
  obtain⟨v,ws,rfl,Y,Z⟩:=h.cons_inv;cases q:boolsOf ds with
  |none=>simp[boolsOf,q]at e
  |some ks=>
   simp[boolsOf,q]at e;subst e;rw[Y.bl_inv,g9 Z q];rfl
 | .non::_,_,_,_,e=>by cases e
 | .int _::_,_,_,_,e=>by cases e
 | .str _::_,_,_,_,e=>by cases e
 | .tup _::_,_,_,_,e=>by cases e
 | .lst _::_,_,_,_,e=>by cases e
 | .ro _::_,_,_,_,e=>by cases e
 | .fz _::_,_,_,_,e=>by cases e
 | .emp::_,_,_,_,e=>by cases e
def sS:List D->M D
 |[.lst k]=>do
  let xs<-getL k
  match boolsOf xs with
  |some bs=>a_ (.bl (bs.all id))
  |none=>M.fail
 |[.fz xs]=>match boolsOf xs with
  |some bs=>a_ (.bl (bs.all id))
  |none=>M.fail
 |_=>M.fail
theorem Be:nI X.K E sS (λxs H Q=>∃(p:bc) (bs:List Bool),xs=[.ref p]/\kS X.K H p (bs.map V.bl)/\Q (.bl (bs.all id)) H):=by
 intro ι S H ds vs Q rep r c;unfold sS at c;split at c
 ·next k=>
  obtain⟨v,ws,rfl,U,T⟩:=r.cons_inv;cases T.nil_inv;obtain⟨p,rfl,W⟩:=U.lst_inv;obtain⟨es,us,_,R,Y,Z⟩:=bh c rep W;cases q:boolsOf es with
  |none=>rw[q]at Z;exact(ah Z).elim
  |some bs=>
   rw[q]at Z;refine⟨p,bs,rfl,.of ?_,aq Z .refl rep _ (.bl _)⟩;rw[<-g9 Y q];exact R
 ·next es=>
  obtain⟨v,ws,rfl,U,T⟩:=r.cons_inv;cases T.nil_inv;obtain⟨p,o,us,rfl,W,Y⟩:=U.fz_inv;cases q:boolsOf es with
  |none=>rw[q]at c;exact(ah c).elim
  |some bs=>
   rw[q]at c;refine⟨p,bs,rfl,.inl (.inr ⟨o,?_⟩),aq c .refl rep _ (.bl _)⟩;rw[<-g9 Y q];exact W
 ·exact(ah c).elim
theorem uO(U:X.calm=cn)(Y:X.mg "all"=none)(W:SE X E e m)(Z:Gl X "all":=by rfl)(hs:dV [e] X.env=[(dt,hO e X.env)]:=by rfl):SE X E (.Call (.Name "all" p) [e] [] pos) (λρ=>do let ds<-(do let x<-m ρ;let xs<-a_ [];a_ (x::xs));sS ds):=
 jW (Bd U) Be Z Y (by decide+kernel) (af W ak hs) (by decide) (by decide) hs rfl
def dE:D->List D->M D
 | .lst k,[d]=>do let xs<-getL k;mx k (xs++[d])
 |_,_=>M.fail
def kc:D->List D->M D
 | .lst k,[.lst j]=>do let xs<-getL k;let ys<-getL j;mx k (xs++ys)
 | .lst k,[.fz ys]=>do let xs<-getL k;mx k (xs++ys)
 |_,_=>M.fail
def oH:D->List D->M D
 | .lst k,[.int i]=>do
  let xs<-getL k
  if 0<=i/\i<xs.length then
   match xs[i.toNat]? with
   |some y=>do let _<-mx k (xs.eraseIdx i.toNat);a_ y
   |none=>M.fail
  else M.fail
 |_,_=>M.fail
theorem wo{K:c_}{H:Hp}{p:bc}{xs:List V}(h:H p=ar (.lst xs)):Mo K "list" (.ref p) H:=.inl ⟨rfl,xs,.of h⟩
def Ih:D->M Unit
 | .lst _=>a_ ()
 |_=>M.fail
theorem uP{name:Str}{O:String}{f:D->List D->M D}{r:V->List V->Hp->VK->Prop}{Y:Pos}(T:Slot "list" name O)(P:typeOf (.builtin O)=a_ (.type "method_descriptor"))(C:Kn X O r)
  (I:JO X.K E f r) (G:SE X E o m) (y:SA X E (e::es) ms)
  (U:ra o name X.env (hO o X.env)=hO o X.env:=by rfl)
  (R:((wd pos (dV (e::es) X.env)).all (λx=> !x.1) && (backToKw pos (keywordEach [] X.env)).all (λx=>x.1.isSome)
   && decide ((e::es).length+([]:List SZ).length+(if ([]:List SZ).isEmpty then 0 else 1)<30))=true:=by rfl)
  (W:(Y.endLine==pos.line)=true:=by rfl) (hs:dV (e::es) X.env=(dt,hO e X.env)::dV es X.env:=by rfl) (Z:(wd pos (dV es X.env)).any (·.1)=false:=by rfl):
  SE X E (.Call (.Attribute o name Y) (e::es) [] pos) (λρ=>do let x<-m ρ;Ih x;let ds<-ms ρ;f x ds):=by
 refine PE.imp (CF Qg T P C G y U R W hs Z) λσ H Q h=>?_;obtain⟨ι,S,ρ,rep,re,c⟩:=h;refine⟨ι,S,ρ,rep,re,aw (ai c) λx N S1 u e1 rep1 c1 v J=>?_⟩;cases x with
 |lst k=>
  obtain⟨p,rfl,z⟩:=J.lst_inv;obtain⟨vs,B⟩:=rep1.isL (N4 z);have w:=aq (ai c1) .refl rep1;exact⟨wo B,N,S1,ρ,rep1,re.later rep e1,aw (ai w) λds L S2 A e2 rep2 c3 vs F=>I L S2 A (.lst k) ds (.ref p) vs Q rep2 (J.later rep1 e2) F c3⟩
 |_=>exact(ah (ai c1)).elim
theorem yo:JO X.K E dE zH:=by
 intro ι S H d ds v vs Q rep r rs c;unfold dE at c;split at c
 ·next k d=>
  obtain⟨p,rfl,Z⟩:=r.lst_inv;obtain⟨w,ws,rfl,P,O⟩:=rs.cons_inv;cases O.nil_inv;obtain⟨es,us,_,W,U,R⟩:=bh c rep Z;obtain⟨Y,T⟩:=jV R rep Z (U.append (.cons P .nil));rw[Nn]at Y;exact⟨p,us,w,rfl,rfl,W,NC (by simp at Y;omega) ik,T _ .non⟩
 ·exact(ah c).elim
def wq:V->List V->Hp->VK->Prop:=λx vs H Q=>∃l b xs zs,x= .ref l/\vs=[.ref b]/\H l=ar (.lst xs)/\Rd H b (.lst zs)/\xs.length+zs.length<=sizeLine/\Q .non (upd H l (.lst (xs++zs)))
theorem yp:Kn X "list.extend" wq:=by
 intro pins s σ H x vs v us Q I S P h;obtain⟨l,b,xs,zs,rfl,rfl,U,O,J,q⟩:=h;cases S;obtain⟨u,rfl,T⟩:=P.one;cases T;obtain⟨z,its,n,r,G,e⟩:=I.lstM U;obtain⟨K,Z,R,L,N,e2⟩:=Inv.lstR I O;have W:its.toArray.size+Z.toArray.size<=sizeLine:=by rw[NA,NA];omega
 have Y:¬ (!its.toArray.isEmpty && rb (its.toArray.size+Z.toArray.size))=true:=by rw[vX W,RI];exact OD
 refine QN F.slot_list_extend ⟨_,e,rfl⟩ F.entry_list_extend (F.args_list_extend_2 _ _)
  (AutoSeq1.list_extend_list_list_0 l its.toArray n b Z.toArray R Y (by rw[NA];omega) (by omega)) ⟨e,e2,?_⟩
 refine⟨.non,_,I.lset (its':=its++Z) U e (by simp) (r.append L) ?_,rfl,q⟩;rw[Nn];omega
theorem yq:JO X.K E kc wq:=by
 intro ι S H d ds v vs Q rep r rs c;unfold kc at c;split at c
 ·next k j=>
  obtain⟨p,rfl,Z⟩:=r.lst_inv;obtain⟨w,ws,rfl,N,L⟩:=rs.cons_inv;cases L.nil_inv;obtain⟨q,rfl,P⟩:=N.lst_inv;obtain⟨es,us,_,W,U,O⟩:=bh c rep Z;obtain⟨I,ys,_,G,T,J⟩:=bh O rep P;obtain⟨Y,R⟩:=jV J rep Z (U.append T);rw[Nn]at Y;exact⟨p,q,us,ys,rfl,rfl,W,.inl G,Nv Y ik,R _ .non⟩
 ·next k I=>
  obtain⟨p,rfl,Z⟩:=r.lst_inv;obtain⟨w,ws,rfl,N,L⟩:=rs.cons_inv;cases L.nil_inv;obtain⟨q,o,ys,rfl,P,T⟩:=N.fz_inv;obtain⟨es,us,_,W,U,O⟩:=bh c rep Z;obtain⟨Y,R⟩:=jV O rep Z (U.append T);rw[Nn]at Y;exact⟨p,q,us,ys,rfl,rfl,W,.inr ⟨o,P⟩,Nv Y ik,R _ .non⟩
 ·exact(ah c).elim
theorem Bg:JO X.K E oH CG:=by
 intro ι S H d ds v vs Q rep r rs c;unfold oH at c;split at c
 ·next k i=>
  obtain⟨p,rfl,W⟩:=r.lst_inv;obtain⟨w,ws,rfl,I,F⟩:=rs.cons_inv;cases F.nil_inv;rw[I.int_inv];obtain⟨es,us,J,N,U,Z⟩:=bh c rep W;split at Z
  ·next hb=>
   cases q:es[i.toNat]? with
   |none=>rw[q]at Z;exact(ah Z).elim
   | some y=>
    rw[q]at Z;obtain⟨L,P,T⟩:=U.get' q;have hlen:=U.length;have G:Ext ι H ι (upd H p (.lst (us.eraseIdx i.toNat))):=uF (N4 W);have Y:=RelDs.eraseIdx i.toNat U;have O:=jV (ai Z) rep W Y;have R:us.length<=lim+1:=by have:=O.1;rw[List.length_eraseIdx]at this;split at this<;>omega
    refine⟨p,us,i,i.toNat,L,rfl,rfl,N,by omega,by unfold lim at R;omega,?_,P,?_⟩
    ·unfold SD;simp only[show ¬ i<0 by omega,if_false];first|(rw[if_pos (by omega)])|(rw[if_pos (by simp;omega)])|(simp;omega)
    ·exact aq O.2 .refl (uG rep W Y) _ (T.later rep G)
  ·exact(ah Z).elim
 ·exact(ah c).elim
theorem fQ{Z:Pos}(U:SE X E o m)(T:SE X E e n)
  (Y:ra o "append" X.env (hO o X.env)=hO o X.env:=by rfl)
  (W:(Z.endLine==pos.line)=true:=by rfl) (hs:dV [e] X.env=[(dt,hO e X.env)]:=by rfl):
  SE X E (.Call (.Attribute o "append" Z) [e] [] pos) (λρ=>do let x<-m ρ;Ih x;let ds<-(do let y<-n ρ;let ys<-a_ [];a_ (y::ys));dE x ds):=
 uP Re Rf lM yo U (af T ak hs) Y (by rw[hs];rfl) W hs rfl
theorem tS{Z:Pos}(U:SE X E o m)(T:SE X E e n)
  (Y:ra o "extend" X.env (hO o X.env)=hO o X.env:=by rfl)
  (W:(Z.endLine==pos.line)=true:=by rfl) (hs:dV [e] X.env=[(dt,hO e X.env)]:=by rfl):
  SE X E (.Call (.Attribute o "extend" Z) [e] [] pos) (λρ=>do let x<-m ρ;Ih x;let ds<-(do let y<-n ρ;let ys<-a_ [];a_ (y::ys));kc x ds):=
 uP PySem.F.slot_list_extend PySem.F.type_list_extend yp yq U (af T ak hs) Y (by rw[hs];rfl) W hs rfl
theorem C9{Z:Pos}(U:SE X E o m)(T:SE X E e n)
  (Y:ra o "pop" X.env (hO o X.env)=hO o X.env:=by rfl)
  (W:(Z.endLine==pos.line)=true:=by rfl) (hs:dV [e] X.env=[(dt,hO e X.env)]:=by rfl):
  SE X E (.Call (.Attribute o "pop" Z) [e] [] pos) (λρ=>do let x<-m ρ;Ih x;let ds<-(do let y<-n ρ;let ys<-a_ [];a_ (y::ys));oH x ds):=
 uP PySem.F.slot_list_pop PySem.F.type_list_pop CH Bg U (af T ak hs) Y (by rw[hs];rfl) W hs rfl
theorem Bh:Ms X.K E la GY:=by
 intro ι S H N L I v1 v2 J Q rep P O U c;unfold la at c;split at c
 ·next k j=>
  obtain⟨p,rfl,W⟩:=P.lst_inv;obtain⟨es,us,_,T,Y,Z⟩:=bh c rep W;cases q:xO es.length j with
  |none=>rw[q]at Z;exact(ah Z).elim
  |some at'=>
   rw[q]at Z;obtain⟨G,R⟩:=jV (ai Z) rep W (RelDs.set U at' Y);refine⟨p,us,j,at',rfl,O.int_inv,T,by rw[<-Y.length];exact q,?_⟩;exact aq R .refl (uG rep W (RelDs.set U at' Y))
 ·exact(ah c).elim
theorem zT(U:SE X E o m)(N:SE X E i n)(O:∀v,RQ (.Subscript o i pos) X.env v=(do
   let ov<-y' [v] (hO o X.env);let iv<-y' [v,ov] (hO i X.env)
   M' pos
   y' [v,ov,iv] (Ua ov iv v)
   release [v,ov,iv] []):=by intro _;rfl):SG X E (.Subscript o i pos) (λd ρ=>do let x<-m ρ;let y<-n ρ;la x y d;a_ ρ):=by
 refine PG.imp (Hv U N set_list O) λv σ H Q h=>?_;obtain⟨ι,S,ρ,d,rep,re,r,c⟩:=h;refine⟨ι,S,ρ,rep,re,aw (ai c) λx Z S1 I e1 rep1 c1 v1 L=>?_⟩;refine⟨Z,S1,ρ,rep1,re.later rep e1,aw (ai c1) λy W S2 P e2 rep2 K v2 T=>?_⟩;have Y:=(re.later rep e1).later rep1 e2;refine Bh (E:=E) W S2 P x y d v1 v2 v _ rep2 (L.later rep1 e2) T ((r.later rep e1).later rep1 e2) (aw (ai K) λ_ R J G e3 rep3 c3=>?_);exact aq c3 .refl rep3 σ (Y.later rep2 e3)
def bD(lo:Int)(n:Nat):List D:=(d_ n).map λi=>.int (lo+(i:Nat))
def mW:List D->M Iter
 |[.int j]=>if -(2 ^ 62)<=j/\j<2 ^ 62 then a_ ⟨bD 0 j.toNat,.none⟩else M.fail
 |_=>M.fail
def lS:List D->M Iter
 |[.int i,.int j]=>if -(2 ^ 62)<=i/\i<2 ^ 62/\ -(2 ^ 62)<=j/\j<2 ^ 62 then a_ ⟨bD i (j - i).toNat,.none⟩else M.fail
 |_=>M.fail
theorem nN{K:c_}{Y:Int}{n:Nat}{ι:List bc}{H:Hp}:jF K ⟨bD Y n,.none⟩ (Ka Y n) ι H:=by
 intro T R S2 e rep ok i;refine⟨λd hd=>?_,λh=>?_⟩
 ·have Z:((d_ n)[i]?).map (λi:Nat=>D.int (Y+(i:Nat)))=ar d:=by
   have:(bD Y n)[i]? =ar d:=hd;unfold bD at this;rw[NM]at this;exact this
  have U:i<n:=by
   by_cases h:i<n
   ·exact h
   ·rw[Oy (by simp;omega)]at Z;cases Z
  rw[P4 U]at Z;cases Z;exact⟨U,λx Q S=>by obtain⟨rfl,rfl⟩:=S;exact⟨.refl,rep,.int _⟩⟩
 ·have h':(bD Y n).length<=i:=h;unfold bD at h';rw[Nl,NS]at h';exact h'
theorem cG(U:X.mg "range"=none)(Z:SE X E a m)(W:Gl X "range":=by rfl)(hs:dV [a] X.env=[(dt,hO a X.env)]:=by rfl):
  SI X E tg (.Call (.Name "range" p) [a] [] pos) (λρ=>do let ds<-(do let x<-m ρ;let xs<-a_ [];a_ (x::xs));mW ds):=by
 intro pins s σ H R I h;refine AV W U (af Z ak hs) hs pins s σ H R I ?_;obtain⟨ι,S,ρ,rep,re,c⟩:=h;refine⟨ι,S,ρ,rep,re,aw (ai c) λds Y S1 P e1 rep1 c1 vs r=>?_⟩;unfold mW at c1;split at c1
 ·next j=>
  obtain⟨w,ws,rfl,T,Q⟩:=r.cons_inv;cases Q.nil_inv;split at c1
  ·next hb=>rw[T.int_inv];exact⟨j,rfl,hb.1,hb.2,aq c1 .refl rep1 _ nN⟩
  ·exact(ah c1).elim
 ·exact(ah c1).elim
theorem iZ(N:X.mg "range"=none)(Q:SE X E a m)(Y:SE X E b n)(O:Gl X "range":=by rfl)(hs:dV [a,b] X.env=[(dt,hO a X.env),(dt,hO b X.env)]:=by rfl)(Z:dV [b] X.env=[(dt,hO b X.env)]:=by rfl):
  SI X E tg (.Call (.Name "range" p) [a,b] [] pos) (λρ=>do let ds<-(do let x<-m ρ;let xs<-(do let y<-n ρ;let ys<-a_ [];a_ (y::ys));a_ (x::xs));lS ds):=by
 intro pins s σ H R I h;refine AW O N (af Q (af Y ak Z) (by rw[hs,Z])) hs Z pins s σ H R I ?_;obtain⟨ι,S,ρ,rep,re,c⟩:=h;refine⟨ι,S,ρ,rep,re,aw (ai c) λds P S1 G e1 rep1 c1 vs r=>?_⟩;unfold lS at c1;split at c1
 ·next i j=>
  obtain⟨w,ws,rfl,L,K⟩:=r.cons_inv;obtain⟨J,T,rfl,W,U⟩:=K.cons_inv;cases U.nil_inv;split at c1
  ·next Y=>rw[L.int_inv,W.int_inv];exact⟨i,j,rfl,Y,aq c1 .refl rep1 _ nN⟩
  ·exact(ah c1).elim
 ·exact(ah c1).elim
def KC:D->M Iter
 | .lst k=>do let xs<-getL k;a_ ⟨xs,.some k⟩
 | .tup ds=>a_ ⟨ds,.none⟩
 | .ro ds=>a_ ⟨ds,.none⟩
 | .fz ds=>a_ ⟨ds,.none⟩
 |_=>M.fail
theorem wt{K:c_}{k:Nat}{a:bc}{xs:List D}{ι:List bc}{H:Hp}(R:ι[k]? =ar a):jF K ⟨xs,.some k⟩ (J9 K a) ι H:=by intro Q P S2 e rep ok i;obtain⟨vs,Z,U⟩:=rep.get k a xs (e.at R) ok;refine⟨λd hd=>?_,λh=>⟨vs,.of Z,by rw[<-U.length];exact h⟩⟩;obtain⟨v,T,S⟩:=U.get' hd;refine⟨⟨vs,v,.of Z,T⟩,λx O Y=>?_⟩;obtain⟨rfl,Y⟩:=Y;have:=Y vs (.of Z);rw[T]at this;cases this;exact⟨.refl,rep,S⟩
theorem yr{K:c_}{a:bc}{ds:List D}{vs:List V}{ι:List bc}{S:az}{H:Hp}(Y:Rep K ι H S)(R:H a=ar (.tup vs))(r:RelDs K ι H ds vs):jF K ⟨ds,.none⟩ (Md K a) ι H:=by intro P N S2 e rep2 ok i;have Z:=(e.oth a _ R (Y.notIn R (by intro _ z;cases z)) (by intro _ z;cases z) (by intro _ z;cases z)).1;have O:=r.laterN Y e;refine⟨λd hd=>?_,λh=>⟨vs,.of Z,by rw[<-r.length];exact h⟩⟩;obtain⟨v,T,Q⟩:=O.get' hd;refine⟨⟨vs,v,.of Z,T⟩,λx L U=>?_⟩;obtain⟨rfl,U⟩:=U;have:=U vs (.of Z);rw[T]at this;cases this;exact⟨.refl,rep2,Q⟩
theorem oI{K:c_}{a:bc}{ds:List D}{vs:List V}{ι:List bc}{S:az}{H:Hp}(Z:Rep K ι H S)(Q:E3 K H a vs)(r:RelDs K ι H ds vs):jF K ⟨ds,.none⟩ (J9 K a) ι H:=by intro O R S2 e rep2 ok i;have Y:E3 K R a vs:=Q.imp (λ⟨o,h⟩=>⟨o,(e.oth a _ h (Z.notIn h (by intro _ z;cases z)) (by intro _ z;cases z) (by intro _ z;cases z)).1⟩) λz=>z;have N:=r.laterN Z e;have sq:kS K R a vs:=Y.sq;refine⟨λd hd=>?_,λh=>⟨vs,sq,by rw[<-r.length];exact h⟩⟩;obtain⟨v,T,P⟩:=N.get' hd;refine⟨⟨vs,v,sq,T⟩,λx L U=>?_⟩;obtain⟨rfl,U⟩:=U;have:=U vs sq;rw[T]at this;cases this;exact⟨.refl,rep2,P⟩
theorem cZ(P:SE X E e m):SI X E tg e (λρ=>do let x<-m ρ;KC x):=by
 intro pins s σ H R I h;obtain⟨ι,S,ρ,rep,re,c⟩:=h;obtain⟨r,Q,T,k⟩:=id (ai c);cases r with
 |ex x=>
  refine lK P pins s σ H R I ⟨ι,S,ρ,rep,re,.ex x,Q,T,k⟩
 | ok d=>
  cases d with
  |tup ds=>
   refine HA P pins s σ H R I ⟨ι,S,ρ,rep,re,.ok (.tup ds),Q,T,λZ W e1 rep1 v U=>?_⟩;obtain⟨p,vs,rfl,Y,O⟩:=U.tup_inv;exact⟨p,rfl,⟨vs,.of Y⟩,aq (k Z W e1 rep1) .refl rep1 _ (yr rep1 Y O)⟩
  |lst j=>
   refine lK P pins s σ H R I ⟨ι,S,ρ,rep,re,.ok (.lst j),Q,T,λZ W e1 rep1 v U=>?_⟩;obtain⟨p,rfl,Y⟩:=U.lst_inv;obtain⟨es,us,_,N,K,L⟩:=bh (k Z W e1 rep1) rep1 Y;exact⟨p,rfl,⟨us,.of N⟩,aq L .refl rep1 _ (wt Y)⟩
  |ro ds=>
   refine lK P pins s σ H R I ⟨ι,S,ρ,rep,re,.ok (.ro ds),Q,T,λZ W e1 rep1 v U=>?_⟩;obtain⟨p,vs,rfl,Y,O⟩:=U.ro_inv;exact⟨p,rfl,⟨vs,Y.sq⟩,aq (k Z W e1 rep1) .refl rep1 _ (oI rep1 Y O)⟩
  |fz ds=>
   refine lK P pins s σ H R I ⟨ι,S,ρ,rep,re,.ok (.fz ds),Q,T,λZ W e1 rep1 v U=>?_⟩;obtain⟨p,o,vs,rfl,Y,O⟩:=U.fz_inv;exact⟨p,rfl,⟨vs,.inl (.inr ⟨o,Y⟩)⟩,aq (k Z W e1 rep1) .refl rep1 _ (oI rep1 (.inl ⟨o,Y⟩) O)⟩
  |_=>exact lK P pins s σ H R I ⟨ι,S,ρ,rep,re,.ok _,Q,T,λZ W e1 rep1 v U=>(ah (k Z W e1 rep1)).elim⟩
theorem wu:d7 X (.type "range") (λxs H Q=>∃j,xs=[.int j]/\∀p,H p=none->Q (.ref p) (upd H p (.rng 0 j))):=by intro pins s σ H xs us Q I r h;obtain⟨j,rfl,q⟩:=h;obtain⟨u,rfl,Z⟩:=vals1 r;obtain⟨t,rfl⟩:=(show ∃t,u=r_ j t from Z);refine call_range_1 ⟨.ref s.heap.objs.size,_,I.laid (o:=.rng 0 j) (λb o e=>Nm _ e) (Nq _) ⟨_,_,_,Nw _ rfl⟩,rfl,q _ (I.hok.fresh (Nq _))⟩
theorem sT(R:X.calm=cn):d7 X (.type "list") (λxs H Q=>∃(p:bc) (j:Int),xs=[.ref p]/\H p=ar (.rng 0 j)/\ -(2 ^ 62)<=j/\j<=lim/\∀l,H l=none->Q (.ref l) (upd H l (.lst ((d_ j.toNat).map λi:Nat=>V.int (i:Nat))))):=by
 intro pins s σ H xs us Q I r h;obtain⟨p,j,rfl,O,N,J,q⟩:=h;obtain⟨u,rfl,T⟩:=vals1 r;cases (show u=ee p from T);obtain⟨t,u,v,P⟩:=(show bB X.prog X.w H s.heap p (.rng 0 j)from I.hok p _ O);have Y:Builtin.Range.rangeSize 0 j 1=(j.toNat:Int):=by rw[rangeSize_one];split<;>omega
 have Z:j.toNat<=lim:=by omega
 refine call_list_range (I.ok.hd R) P (small_one (by omega) (by omega) N (by unfold lim at J;omega)) Y (by unfold lim at Z;omega) λh' L acc F G S hit=>?_;refine⟨.ref s.heap.objs.size,_,I.laid (t':=L) G (Nq _) (o:=.lst ((d_ j.toNat).map λi:Nat=>V.int (i:Nat))) ?_,rfl,q _ (I.hok.fresh (Nq _))⟩;refine⟨by rw[Nl,NS];exact Nv Z ik,acc.toList,F,?_,by simpa using S⟩;obtain⟨hs,K⟩:=hit;have gen:∀(l:List aC) (f:Nat->Int),(∀i v,l[i]? =ar v->∃t,v=r_ (f i) t)->bg ((d_ l.length).map λi:Nat=>V.int (f i)) l:=by
  intro l
  induction l with
  |nil=>intro f _;exact .nil
  |cons x l ih=>
   intro f hf;rw[NU,Qo,NH,NK];obtain⟨t,U⟩:=hf 0 x rfl;refine .cons ⟨t,U⟩ ?_;exact ih (λi=>f (i+1)) λi v W=>hf (i+1) v (by simpa using W)
 have:=gen acc.toList (λi=>(i:Int)) λi v W=>by obtain⟨t,U⟩:=K i v (by simpa using W);exact⟨t,by rw[U];congr 1;omega⟩
 rw[Pl,hs]at this;exact this
def fN:List D->M D
 |[.int j]=>if -(2 ^ 62)<=j/\j<=lim then bx (bD 0 j.toNat)else M.fail
 |_=>M.fail
theorem rf{K:c_}{ι:List bc}{H:Hp}:∀(l:List Nat),RelDs K ι H (l.map λi:Nat=>D.int (0+(i:Nat))) (l.map λi:Nat=>V.int (i:Nat))
 |[]=>.nil
 |x::l=>.cons (by show RelD K ι H (D.int (0+(x:Int))) (V.int (x:Int));rw[Pj];exact .int _) (rf l)
theorem uQ(T:X.calm=cn)(N:X.mg "list"=none)(Y:X.mg "range"=none)(R:SE X E a m)(O:Gl X "list":=by rfl)(W:Gl X "range":=by rfl)(hs:dV [a] X.env=[(dt,hO a X.env)]:=by rfl)
  (Z:dV [.Call (.Name "range" q) [a] [] pos2] X.env=[(dt,hO (.Call (.Name "range" q) [a] [] pos2) X.env)]:=by rfl):
  SE X E (.Call (.Name "list" p) [.Call (.Name "range" q) [a] [] pos2] [] pos) (λρ=>do let ds<-(do let x<-m ρ;let xs<-a_ [];a_ (x::xs));fN ds):=by
 refine PE.imp (lL (sT T) O N (by decide+kernel) (eT (lL wu W Y (by decide+kernel) (af R ak hs) (by decide) (by decide) hs rfl) j8 Z) (by decide) (by decide) Z rfl) λσ H Q h=>?_;obtain⟨ι,S,ρ,rep,re,c⟩:=h;refine⟨ι,S,ρ,rep,re,aw (ai c) λds P S1 I e1 rep1 c1 vs r=>?_⟩;unfold fN at c1;split at c1
 ·next j=>
  obtain⟨w,ws,rfl,L,J⟩:=r.cons_inv;cases J.nil_inv;split at c1
  ·next hb=>
   rw[L.int_inv];refine⟨j,rfl,λp U=>?_⟩;have rep2:=iJ (o:=.rng 0 j) rep1 U;refine⟨p,j,rfl,a8,hb.1,hb.2,?_⟩;have K:=gu c1 (fU (o:=.rng 0 j) U);exact(bW K rep2 (rf (d_ j.toNat))).2
  ·exact(ah c1).elim
 ·exact(ah c1).elim
end
section
variable {X:Cx}{E:XD}{a b c d e:Expr}{m n l k:TM}{pos p2:Pos}
theorem Ii:SE X E (.Dict [] [] pos) (λ_=>a_ .emp):=by intro pins s σ H Q I h;obtain⟨ι,S,ρ,rep,re,Z⟩:=h;have big:S8<s.heap.objs.size:=QY (by decide) (I.mod.glob.keeps I.bk).lt;have hf:H s.heap.objs.size=none:=I.hok.fresh (Nq _);have Y:bB X.prog X.w (upd H s.heap.objs.size (.dK [])) (s.heap.push {cls:=.type "dict",data:=.dict #[]}) s.heap.objs.size (.dK []):=⟨NN _,beq_eq_false_iff_ne.mpr (k_ (NB big)),[],.nil,Heap.DictOf.new s.heap⟩;refine wpAny_Dict_empty ⟨.ref s.heap.objs.size,upd H s.heap.objs.size (.dK []),I.laid (t':=s.toks) (λ_ _ q=>Nm _ q) (Nq _) Y,rfl,?_⟩;exact aq Z (fU hf) (iJ rep hf) _ (.emp a8)
end
section
variable {X:Cx}{E:XD}{e:Expr}{m:TM}{te:TE}{pos p1 p2 p3:Pos}{j:Nat}
end
def insI(x:Int):List Int->List Int
 |[]=>[x]
 |y::r=>if x<=y then x::y::r else y::insI x r
def sortI:List Int->List Int
 |[]=>[]
 |x::r=>insI x (sortI r)
theorem insI_perm(x:Int):∀l,(insI x l).Perm (x::l)
 |[]=>.refl _
 |y::r=>by
  unfold insI;split
  ·exact .refl _
  ·exact(K' y (insI_perm x r)).trans (List.Perm.swap x y r)
theorem sortI_perm:∀l,(sortI l).Perm l
 |[]=>.refl _
 |x::r=>(insI_perm x _).trans (K' x (sortI_perm r))
theorem pD(x:Int):∀{l:List Int},l.Pairwise (· <=·)->(insI x l).Pairwise (· <=·)
 |[],_=>by simp[insI]
 | y::r,h=>by
  obtain⟨Y,X⟩:=Of.mp h;unfold insI;split
  ·next c=>
   refine Of.mpr ⟨λz Z=>?_,h⟩;rcases NJ.mp Z with rfl|Z
   ·exact c
   ·exact Int.le_trans c (Y z Z)
  ·next c=>
   refine Of.mpr ⟨λz Z=>?_,pD x X⟩;rcases NJ.mp ((insI_perm x r).mem_iff.mp Z)with rfl|Z
   ·omega
   ·exact Y z Z
theorem nO:∀l,(sortI l).Pairwise (· <=·)
 |[]=>.nil
 |x::r=>pD x (nO r)
section
variable {X:Cx}{E:XD}{e:Expr}{m:TM}{pos:Pos}
theorem uR:d7 X (.builtin "sorted") (λxs H Q=>∃(p:bc) (ns:List Int),xs=[.ref p]/\kS X.K H p (ns.map V.int)/\ns.length<64/\∀l,H l=none->Q (.ref l) (upd H l (.lst ((sortI ns).map V.int)))):=by intro pins s σ H xs us Q I r h;obtain⟨p,ns,rfl,S,N,q⟩:=h;obtain⟨u,rfl,T⟩:=vals1 r;cases (show u=ee p from T);obtain⟨its,Y,O,L⟩:=I.list S;have U:pb its ns:=Ra Y;have hlen:=Y.length;rw[Nl]at hlen;refine sorted_ints O.isList U (by omega) λout Z a1 a2 P=>?_;have en:Z=sortI ns:=W.lks_uniq (a2.trans (sortI_perm ns).symm) P (nO ns);subst en;obtain⟨c,R⟩:=sortedAll_at s.heap its out;have hf:H (s.heap.objs.size+1)=none:=I.hok.fresh (P3 _);refine⟨.ref (s.heap.objs.size+1),_,I.laid (t':=s.toks) (o:=.lst ((sortI ns).map V.int)) (λb o e=>sortedAll_old e) (P3 _) ⟨?_,out.toList,c,lN a1,R⟩,rfl,q _ hf⟩;rw[Nl,(sortI_perm ns).length_eq,OI];omega
theorem rg{K:c_}{ι:List bc}{H:Hp}:∀ns:List Int,RelDs K ι H (ns.map D.int) (ns.map V.int)
 |[]=>.nil
 |n::r=>.cons (.int n) (rg r)
end
end S3
namespace S3
open PySem PySem.Spec PySem.W PyProof.Rows L2
theorem rh{h:f'}:∀{vs:List aC},(∀v∈vs,∃a o us n i t,v= .ref a/\h.get? a=ar o/\o.cls= .type "tuple"/\o.data= .seq us n/\us[0]? =ar (r_ i t))->
  ∃Z,KatTups h vs Z/\Z.length=vs.length/\∀f∈Z,∃i t,f=r_ i t
 |[],_=>⟨[],.nil,rfl,λ_ z=>nomatch z⟩
 |v::vs,hv=>by
  obtain⟨a,o,us,n,i,t,rfl,e1,e2,e3,X⟩:=hv v NF;obtain⟨Z,k1,k2,k3⟩:=rh λY h'=>hv Y (Nx _ h');refine⟨_::Z,.cons e1 e2 e3 X k1,by simp[k2],λf hf=>?_⟩;rcases NJ.mp hf with rfl|hf
  ·exact⟨i,t,rfl⟩
  ·exact k3 f hf
theorem kd:∀ns:List Int,HT.lexLt ns ns=dt
 |[]=>rfl
 |n::r=>by rw[HT.lexLt_cons,if_pos rfl];exact kd r
theorem yt:∀{a b c:List Int},HT.lexLt a b=cn->HT.lexLt b c=cn->HT.lexLt a c=cn
 |[],[],c,h,_=>by cases h
 |[],_::_,[],_,h=>by cases h
 |[],_::_,_::_,_,_=>rfl
 |_::_,[],c,h,_=>by cases h
 |_::_,_::_,[],_,h=>by cases h
 | x::a,y::b,z::c,h1,h2=>by
  rw[HT.lexLt_cons]at h1 h2⊢;split at h1
  ·next e=>
   subst e;split at h2
   ·next e2=>subst e2;rw[if_pos rfl];exact yt h1 h2
   ·next e2=>rw[if_neg e2];exact h2
  ·next e=>
   have Z:x<y:=Om h1;split at h2
   ·next e2=>subst e2;rw[if_neg e];exact h1
   ·next e2=>
    have Y:y<z:=Om h2;rw[if_neg (by omega)];exact NI (by omega)
theorem uS:∀{a b c:List Int},HT.lexLt a c=cn->HT.lexLt a b=cn\/HT.lexLt b c=cn
 |a,b,[],h=>by cases a<;>cases h
 |[],[],_::_,_=>.inr rfl
 |[],_::_,_::_,_=>.inl rfl
 |_::_,[],_::_,_=>.inr rfl
 | x ::a,y::b,z::c,h=>by
  rw[HT.lexLt_cons]at h;rw[HT.lexLt_cons,HT.lexLt_cons];split at h
  ·next e=>
   subst e;by_cases e2:x=y
   ·subst e2;rw[if_pos rfl,if_pos rfl];exact uS h
   ·rw[if_neg e2,if_neg (k_ e2)];rcases Int.lt_or_gt_of_ne e2 with l|l
    ·exact .inl (NI l)
    ·exact .inr (NI l)
  ·next e=>
   have h':x<z:=Om h;by_cases e2:x=y
   ·subst e2;rw[if_neg e];exact .inr (NI h')
   ·rw[if_neg e2];by_cases l:x<y
    ·exact .inl (NI l)
    ·refine .inr ?_;rw[if_neg (by omega)];exact NI (by omega)
theorem Da(x:bB P w H h a o):∃Z,h.get? a=ar Z:=by
 cases o with
 |lst xs=>obtain⟨_,_,_,_,e⟩:=x;exact⟨_,e⟩
 |tup xs=>obtain⟨_,_,_,Z,e,_⟩:=x;exact⟨_,e⟩
 |dK kvs=>obtain⟨_,_,_,_,o,_,_,e,_⟩:=x;exact⟨_,e⟩
 |dT kvs=>obtain⟨_,_,_,_,o,_,_,e,_⟩:=x;exact⟨_,e⟩
 |set S n=>obtain⟨o,_,_,_,e,_⟩:=x;exact⟨_,e⟩
 |ins C dx fs=>obtain⟨_,_,_,e,_⟩:=x;exact⟨_,e⟩
 |own y=>exact x
 |xd fs=>obtain⟨_,⟨_,_,_,e,_⟩,_⟩:=x;exact⟨_,e⟩
 |rng lo hi=>obtain⟨_,_,_,e⟩:=x;exact⟨_,e⟩
 |frz Z u=>exact⟨_,x.1⟩
 |tbl ps=>exact⟨_,show h.get? a=ar _ from x⟩
 |met f y=>exact⟨_,show h.get? a=ar _ from x⟩
 |ext φ=>exact x.2.1
section
variable {X:Cx}{pins:List (bc×Obj)}{σ:L2.St}{H:Hp}{s:b_}
theorem yu{us:List aC}(I:L2.Inv X pins σ H s)(Q:Fr X.base X.env.locals s.heap m)(F:Fr X.base X.env.locals h2 m)
  (U:∀b o,b≠X.env.locals->s.heap.get? b=ar o->h2.get? b=ar o) (S:s.heap.get? d=none) (L:h2.get? d=ar {cls:=.type "list",data:=.seq us.toArray n}) (G:bg ys us) (N:ys.length<=sizeLine):
  L2.Inv X pins σ (upd H d (.lst ys)) {s with heap:=h2}:=by
 have Y:H d=none:=by
  cases e:H d with
  |none=>rfl
  |some o=>obtain⟨K,q⟩:=Da (I.hok d o e);rw[S]at q;cases q
 have W:∀b o,H b=ar o->b≠X.env.locals:=λb o e z=>by rw[z,I.free]at e;cases e
 have old:∀b o,s.heap.get? b=ar o->b≠d:=λb o e z=>by rw[z,S]at e;cases e
 refine I.step (g':=s.gens) (d':=s.drawn) (t':=s.toks) (ch:=[]) (λ_ z=>nomatch z) (λb o Z _ _ e _=>U b o Z e) (λb o Z _ _ e _=>⟨o.slots,U b o Z e⟩)
  (λb o _ e n=>by rw[aO (old b o e)];exact n) (λb o _ e=>?_) (λb xs e=>by rw[aO (aM e Y)];exact e) (λb K u e=>by rw[aO (aM e Y)];exact e)
  (λb A e=>⟨#[],by rw[aO (aM e Y),e];simp⟩) (λE hm=>?_) (λb u e=>?_) I.bare
 ·by_cases Z:b=X.env.locals
  ·obtain⟨B,_,_,C,_⟩:=F.ns;exact⟨B,by rw[Z];exact C⟩
  ·exact⟨o,U b o Z e⟩
 ·have:E=m:=by
   obtain⟨y,es,ep,e1,P,_,g1⟩:=hm;obtain⟨o2,O,J,e2,R,_,g2⟩:=Q.ns;rw[e1]at e2;cases e2;rw[P]at R;cases R;funext x;rw[<-g1 x, <-g2 x]
  rw[this];exact F.ns
 ·by_cases Z:b=d
  ·subst Z;rw[a8]at e;cases e;exact⟨N,us,n,G,L⟩
  ·rw[aO Z]at e;refine(I.hok b u e).stay (λc v T z=>U c v ?_ z) (λc z=>by rw[aO (aM z Y)];exact z) λc xs z=>by rw[aO (aM z Y)];exact z
   rcases T with rfl|T
   ·exact W _ _ e
   ·exact W _ _ T
end
section
variable {X:Cx}
end
end S3
namespace S4
open PySem PySem.SetTable
def tb(m:Nat):SetTable:=⟨m, #[], #[],0,cn,0,cn⟩
def cA(m:Nat)(h:Int):Nat->Probe
 |0=>(tb m).probeStart h
 |k+1=>(tb m).advance (cA m h k)
theorem Ij(t:nC)(h:Int)(k:Nat):t.advance (cA t.mask h k)=cA t.mask h (k+1):=rfl
theorem Bi(t:nC)(p:Probe)(Z:p.dummy=none):(t.advance p).dummy=none:=by
 unfold TJ;split
 ·exact Z
 ·exact Z
theorem rj(m:Nat)(h:Int):∀k,(cA m h k).dummy=none
 |0=>rfl
 |k+1=>Bi _ _ (rj m h k)
def gR(m:Nat)(h:Int):Nat->Nat×Nat
 |0=>(TU h % (m+1),TU h)
 |n+1=>leap m (gR m h n).1 (gR m h n).2
def run(m i:Nat):Nat:=Ti m i - i
theorem Ik(m i:Nat):run m i<=9:=by unfold run Ti;split<;>omega
def sH(m:Nat)(h:Int):Nat->Nat
 |0=>0
 |n+1=>sH m h n+run m (gR m h n).1+1
theorem Dc(m:Nat)(h:Int):∀n,sH m h n<=10*n
 |0=>Nq _
 |n+1=>by
  have:=Dc m h n;have:=Ik m (gR m h n).1;show sH m h n+run m (gR m h n).1+1<=10*(n+1);omega
theorem uT(m:Nat)(h:Int)(n:Nat)(e:cA m h (sH m h n)=⟨(gR m h n).1,run m (gR m h n).1,(gR m h n).1,(gR m h n).2,none⟩):
  ∀r,r<=run m (gR m h n).1->cA m h (sH m h n+r)=⟨(gR m h n).1+r,run m (gR m h n).1 - r,(gR m h n).1,(gR m h n).2,none⟩
 |0,_=>e
 |r+1,hr=>by
  have Z:=uT m h n e r (by omega);show(tb m).advance (cA m h (sH m h n+r))=_;rw[Z];unfold TJ;simp only;rw[if_pos (by omega)];simp only[Probe.mk.injEq,and_true,true_and];omega
theorem rk(m:Nat)(h:Int):∀n,cA m h (sH m h n)=⟨(gR m h n).1,run m (gR m h n).1,(gR m h n).1,(gR m h n).2,none⟩
 |0=>rfl
 |n+1=>by
  have e:=uT m h n (rk m h n) _ (Nq _);show(tb m).advance (cA m h (sH m h n+run m (gR m h n).1))=_;rw[e];unfold TJ;simp only;rw[if_neg (by omega)];rfl
theorem uU(m:Nat)(h:Int)(n r:Nat)(Z:r<=run m (gR m h n).1):(cA m h (sH m h n+r)).j=(gR m h n).1+r:=by rw[uT m h n (rk m h n) r Z]
theorem zU(m:Nat)(h:Int):∀n,(gR m h n).2=TU h / 32 ^ n
 |0=>by simp[gR]
 |n+1=>by
  show(gR m h n).2 / 32=_;rw[zU m h n,Nat.div_div_eq_div_mul,Sw]
theorem FC(h:Int):TU h<2 ^ 64:=by unfold TU;have Z:0<=h % (2 ^ 64:Int):=Qh _ (by decide);have Y:h % (2 ^ 64:Int)<2 ^ 64:=PD _ (by decide);omega
theorem Mv(m:Nat)(h:Int)(n:Nat):(gR m h (13+n)).2=0:=by
 rw[zU];refine Nat.div_eq_of_lt (NC (FC h) ?_);have:(2:Nat) ^ 64<=32 ^ 13:=by decide
 exact Nv this (Nat.pow_le_pow_right (by decide) (by omega))
def KD(m:Nat):Nat->Nat->Nat
 |0,a=>a
 |n+1,a=>(KD m n a*5+1) % (m+1)
theorem yw(m:Nat)(h:Int):∀n,(gR m h (13+n)).1=KD m n (gR m h 13).1
 |0=>rfl
 |n+1=>by
  show((gR m h (13+n)).1*5+1+(gR m h (13+n)).2 / 32) % (m+1)=(KD m n (gR m h 13).1*5+1) % (m+1);rw[Mv,yw m h n]
theorem Dd(m:Nat)(h:Int):∀n,(gR m h n).1<m+1
 |0=>Rg _ (by omega)
 |n+1=>Rg _ (by omega)
theorem Mw:∀a,a<8->∀j,j<8->∃n,n<8/\KD 7 n a=j:=by decide+kernel
theorem KF:∀a,a<32->∀j,j<32->∃n,n<32/\KD 31 n a=j:=by decide+kernel
def G1(m:Nat):Prop:=m=7\/m=31
theorem De(Y:G1 m)(h:Int)(j:Nat)(W:j<=m):∃n,n<m+14/\(gR m h n).1=j:=by
 rcases Y with rfl|rfl
 ·obtain⟨n,X,Z⟩:=Mw _ (Dd 7 h 13) j (by omega);exact⟨13+n,by omega,by rw[yw];exact Z⟩
 ·obtain⟨n,X,Z⟩:=KF _ (Dd 31 h 13) j (by omega);exact⟨13+n,by omega,by rw[yw];exact Z⟩
theorem cover(X:G1 m)(h:Int)(j:Nat)(Z:j<=m):∃K,K<10*TV m/\(cA m h K).j=j:=by obtain⟨n,W,Y⟩:=De X h j Z;refine⟨sH m h n,?_,by rw[rk];exact Y⟩;have:=Dc m h n;unfold TV;omega
theorem tT(h:i<m+1):i+run m i<=m:=by unfold run Ti;split<;>omega
theorem Il{p:Probe}(h:p.j+p.more<=m):((tb m).advance p).j+((tb m).advance p).more<=m:=by
 unfold TJ;split
 ·simp only;omega
 ·simp only[leap];exact tT (Rg _ (by omega))
theorem tU(m:Nat)(h:Int):∀k,(cA m h k).j+(cA m h k).more<=m
 |0=>tT (Rg _ (by omega))
 |k+1=>Il (tU m h k)
theorem FD(m:Nat)(h:Int)(k:Nat)(_:G1 m):(cA m h k).j<=m:=Nv (Pp _ _) (tU m h k)
def FE(xs:Array Nat):Prop:=∀(i j a b:Nat),i<j->xs[i]? =ar a->xs[j]? =ar b->a<b
theorem rl(Y:FE xs):∀(fuel lo hi:Nat),lo<=hi->hi<=xs.size->hi - lo<=fuel->(∀(i a:Nat),i<lo->xs[i]? =ar a->a<j)->(∀(i a:Nat),hi<=i->xs[i]? =ar a->j<=a)->
  Tj xs j fuel lo hi<=xs.size/\(∀(i a:Nat),i<Tj xs j fuel lo hi->xs[i]? =ar a->a<j)/\(∀(i a:Nat),Tj xs j fuel lo hi<=i->xs[i]? =ar a->j<=a)
 |0,lo,hi,h1,h2,h3,h4,h5=>by
  have:lo=hi:=by omega
  subst this;exact⟨h2,h4,h5⟩
 | fuel+1,lo,hi,h1,h2,h3,h4,h5=>by
  unfold Tj;by_cases hlt:lo<hi
  ·rw[if_pos hlt];simp only;have Z:(lo+hi) / 2<xs.size:=by omega
   have U:xs.getD ((lo+hi) / 2) j=xs[(lo+hi) / 2]:=by simp[Tn,Z]
   have X:xs[(lo+hi) / 2]? =ar xs[(lo+hi) / 2]:=Nz Z;rw[U];split
   ·next hc=>
    refine rl Y fuel _ hi (by omega) h2 (by omega) (λi a W e=>?_) h5;by_cases he:i=(lo+hi) / 2
    ·subst he;rw[X]at e;cases e;exact hc
    ·exact QY (Y i _ a _ (by omega) e X) hc
   ·next hc=>
    refine rl Y fuel lo _ (by omega) (by omega) (by omega) h4 (λi a W e=>?_);by_cases he:i=(lo+hi) / 2
    ·subst he;rw[X]at e;cases e;omega
    ·have:=Y _ i _ a (by omega) X e;omega
  ·rw[if_neg hlt];have:lo=hi:=by omega
   subst this;exact⟨h2,h4,h5⟩
theorem rm(Y:FE xs)(j:Nat):x' xs j<=xs.size/\(∀(i a:Nat),i<x' xs j->xs[i]? =ar a->a<j)/\(∀(i a:Nat),x' xs j<=i->xs[i]? =ar a->j<=a):=
 rl Y xs.size 0 xs.size (NN _) (Nq _) (by omega) (λ_ _ h=>absurd h (Ry _)) λi a Z e=>by rw[ON Z]at e;cases e
theorem yx(Z:FE xs)(h:xs[i]? =ar j):x' xs j=i:=by
 obtain⟨_,Y,W⟩:=rm Z j;rcases Rh (x' xs j) i with l|l|l
 ·have X:x' xs j<xs.size:=QY l (NQ.mp h).1;have e:xs[x' xs j]? =ar xs[x' xs j]:=Nz X;have U:=Z _ _ _ _ l e h;have T:=W _ _ (Nq _) e;omega
 ·exact l
 ·have:=Y i j l h;omega
theorem oJ{t:nC}(h:t.slot j= .live i):t.place[i]? =ar j:=by
 unfold slot at h;simp only at h;split at h
 ·next hc=>cases h;exact Tu hc
 ·split at h<;>cases h
theorem qi{t:nC}(Z:FE t.place)(h:t.place[i]? =ar j):t.slot j= .live i:=by unfold slot;simp only;rw[yx Z h,h];simp
theorem zV{t:nC}(Z:t.dummies= #[])(j:Nat):(∃i,t.slot j= .live i)\/t.slot j= .empty:=by
 unfold slot;simp only;rw[Z];split
 ·exact .inl ⟨_,rfl⟩
 ·exact .inr (by simp[has])
theorem yy{t:nC}(Z:FE t.place)(h:t.slot j= .empty):∀(i:Nat),t.place[i]? ≠ar j:=λi e=>by rw[qi Z e]at h;cases h
theorem zW(Z:FE xs)(h:∀(j:Nat),j<n->∃i:Nat,xs[i]? =ar j):∀(j:Nat),j<n->∃i:Nat,j<=i/\xs[i]? =ar j
 |0,hj=>by obtain⟨i,e⟩:=h 0 hj;exact⟨i,NN _,e⟩
 |j+1,hj=>by
  obtain⟨i,W,Y⟩:=zW Z h j (by omega);obtain⟨X,e⟩:=h (j+1) hj;refine⟨X,?_,e⟩;rcases Rh i X with l|l|l
  ·omega
  ·subst l;rw[Y]at e;cases e
  ·have:=Z _ _ _ _ l e Y;omega
theorem Bj{t:nC}(Z:FE t.place)(W:t.dummies= #[])(hs:t.place.size<=t.mask):∃j,j<=t.mask/\t.slot j= .empty:=by
 apply Q0;intro X;have:∀(j:Nat),j<t.mask+1->∃i:Nat,t.place[i]? =ar j:=λj U=>by
  rcases zV W j with⟨i,e⟩|e
  ·exact⟨i,oJ e⟩
  ·exact absurd ⟨j,by omega,e⟩ X
 obtain⟨i,T,Y⟩:=zW Z this t.mask (by omega);have:=(NQ.mp Y).1;omega
theorem zX{t:nC}(W:t.dummies= #[])(Y:Nat->Int)(h:Int)(K:Nat)(X:t.slot (cA t.mask h K).j= .empty):∀(fuel k:Nat),k<=K->K - k<fuel->
    ∃Z,k<=Z/\Z<=K/\(∀m,k<=m->m<Z->∃i,t.slot (cA t.mask h m).j= .live i/\Y i≠h)/\
      ((t.slot (cA t.mask h Z).j= .empty/\TX t Y h fuel (cA t.mask h k)=ar (.empty (cA t.mask h Z).j none))\/
       (∃i,t.slot (cA t.mask h Z).j= .live i/\Y i=h/\TX t Y h fuel (cA t.mask h k)=ar (.candidate (cA t.mask h Z).j i (cA t.mask h (Z+1)))))
  |0,k,h1,h2=>by omega
  | fuel+1,k,h1,h2=>by
    unfold TX;rcases zV W (cA t.mask h k).j with⟨i,e⟩|e
    · rw[e]
      simp only;by_cases hh:Y i=h
      · rw[if_pos (by simpa using hh)]
        exact⟨k,Nq _,h1,λm a b=>by omega,.inr ⟨i,e,hh,rfl⟩⟩
      · rw[if_neg (by simpa using hh)]
        have T:k≠K:=λz=>by subst z;rw[X]at e;cases e
        obtain⟨Z,g1,g2,g3,U⟩:=zX W Y h K X fuel (k+1) (by omega) (by omega);refine⟨Z,by omega,g2,λm a b=>?_,?_⟩
        · by_cases hm:m=k
          · subst hm;exact⟨i,e,hh⟩
          · exact g3 m (by omega) b
        · rw[Ij];exact U
    · rw[e]
      simp only[rj];exact⟨k,Nq _,h1,λm a b=>by omega,.inl ⟨e,rfl⟩⟩
abbrev Ent:=Int×aC
def At(pl:Array Nat)(es:Array Ent)(j:Nat)(e:Ent):Prop:=∃i:Nat,pl[i]? =ar j/\es[i]? =ar e
structure TPre(t:nC)(es:Array Ent):Prop where
 msk:G1 t.mask
 dum:t.dummies= #[]
 siz:t.place.size=es.size
 ris:FE t.place
 inb:∀(i a:Nat),t.place[i]? =ar a->a<=t.mask
 way:∀(j:Nat) (e:Ent),At t.place es j e->∃k,(cA t.mask e.1 k).j=j/\∀m,m<k->∃e',At t.place es (cA t.mask e.1 m).j e'
structure TOk(t:nC)(es:Array Ent):Prop extends TPre t es where
 few:es.size*5<t.mask*3
theorem TPre.fits(k:TPre t es)(h:es.size<=t.mask):t.fits es.size=true:=by unfold SetTable.fits fill;rw[k.siz,k.dum];simpa using h
theorem TOk.le(k:TOk t es):es.size<=t.mask:=by have:=k.few;omega
theorem TPre.at_of{t:nC}{es:Array Ent}(k:TPre t es){i j:Nat}(h:t.place[i]? =ar j):∃e,es[i]? =ar e/\At t.place es j e:=by
 have Z:i<es.size:=by rw[<-k.siz];exact(NQ.mp h).1
 exact⟨es[i],Nz Z,i,h,Nz Z⟩
theorem Df(Z:Bool):TOk (LI 0 0 Z) #[] where
 msk:=.inl rfl
 dum:=rfl
 siz:=rfl
 ris:=λi j a b _ h _=>by simp[LI]at h
 inb:=λi a h=>by simp[LI]at h
 way:=λj e ⟨i,h,_⟩=>by simp[LI]at h
 few:=by show 0*5<7*3;decide
theorem fB{α:Type}(xs:Array α)(p:Nat)(x:α)(Z:p<=xs.size)(i:Nat):(er xs p x)[i]? =if i<p then xs[i]? else if i=p then ar x else xs[i - 1]? :=by
 rw[<-NW,SetTable.toList_insertAt];have Y:(xs.toList.take p).length=p:=by simp[Z]
 by_cases h1:i<p
 ·rw[if_pos h1,NZ (by omega),Q9 h1,NW]
 ·rw[if_neg h1,PV (by omega),Y];by_cases h2:i=p
  ·subst h2;simp
  ·rw[if_neg h2];obtain⟨d,hd⟩:∃d,i - p=d+1:=⟨i - p - 1,by omega⟩;rw[hd,List.getElem?_cons_succ,QZ,show p+d=i - 1 by omega,NW]
theorem rq{α:Type}(xs:Array α)(p:Nat)(x:α):(er xs p x).size=xs.size+1:=by have:=(SetTable.insertAt_perm xs p x).length_eq;simpa using this
theorem Dg{X:Array Nat}{es:Array Ent}(hs:X.size=es.size)(Y:p<=X.size)(U:Nat)(W:Ent):
  At (er X p j) (er es p e) U W↔At X es U W\/(U=j/\W=e):=by
 have Z:p<=es.size:=by rw[<-hs];exact Y
 constructor
 ·rintro⟨i,h1,h2⟩;rw[fB _ _ _ Y]at h1;rw[fB _ _ _ Z]at h2;by_cases c1:i<p
  ·rw[if_pos c1]at h1 h2;exact .inl ⟨i,h1,h2⟩
  ·rw[if_neg c1]at h1 h2;by_cases c2:i=p
   ·rw[if_pos c2]at h1 h2;cases h1;cases h2;exact .inr ⟨rfl,rfl⟩
   ·rw[if_neg c2]at h1 h2;exact .inl ⟨_,h1,h2⟩
 ·rintro(⟨i,h1,h2⟩|⟨rfl,rfl⟩)
  ·by_cases c1:i<p
   ·exact⟨i,by rw[fB _ _ _ Y,if_pos c1];exact h1,by rw[fB _ _ _ Z,if_pos c1];exact h2⟩
   ·exact⟨i+1,by rw[fB _ _ _ Y,if_neg (by omega),if_neg (by omega)];exact h1,by rw[fB _ _ _ Z,if_neg (by omega),if_neg (by omega)];exact h2⟩
  ·exact⟨p,by rw[fB _ _ _ Y,if_neg (by omega),if_pos rfl],by rw[fB _ _ _ Z,if_neg (by omega),if_pos rfl]⟩
theorem Im{t:nC}(Z:t.dummies= #[])(j:Nat):t.put j=({t with place:=er t.place (x' t.place j) j},x' t.place j):=by
 unfold put;simp only;rw[Z];have:has (#[]:Array Nat) j=false:=by simp[has]
 rw[this];cases t;simp only at Z;subst Z;rfl
theorem Io(k:TPre t es){e:Ent}(O:j<=t.mask)(N:t.slot j= .empty)(H:(cA t.mask e.1 K).j=j)(I:∀m,m<K->∃U,At t.place es (cA t.mask e.1 m).j U):
  TPre (t.put j).1 (er es (t.put j).2 e)/\(t.put j).1.mask=t.mask/\(t.put j).1.led=t.led/\(t.put j).1.plain=t.plain:=by
 obtain⟨X,G,L⟩:=rm k.ris j;have R:=yy k.ris N;rw[Im k.dum];refine⟨⟨k.msk,k.dum,?_,?_,?_,?_⟩,rfl,rfl,rfl⟩
 ·show(er t.place (x' t.place j) j).size=_;rw[rq,rq,k.siz]
 ·intro P S a b W T Q;have Y:(er t.place (x' t.place j) j)[P]? =ar a:=T;have Z:(er t.place (x' t.place j) j)[S]? =ar b:=Q;rw[fB _ _ _ X]at Y Z;by_cases c1:P<x' t.place j
  ·rw[if_pos c1]at Y;by_cases c2:S<x' t.place j
   ·rw[if_pos c2]at Z;exact k.ris _ _ _ _ W Y Z
   ·rw[if_neg c2]at Z;by_cases c3:S=x' t.place j
    ·rw[if_pos c3]at Z;cases Z;exact G _ _ c1 Y
    ·rw[if_neg c3]at Z;exact k.ris _ _ _ _ (by omega) Y Z
  ·rw[if_neg c1]at Y;rw[if_neg (by omega),if_neg (by omega)]at Z;by_cases c3:P=x' t.place j
   ·rw[if_pos c3]at Y;cases Y;have q:=L _ _ (by omega) Z;have:b≠j:=λz=>by subst z;exact R _ Z
    omega
   ·rw[if_neg c3]at Y;exact k.ris _ _ _ _ (by omega) Y Z
 ·intro i a h;have h':(er t.place (x' t.place j) j)[i]? =ar a:=h;rw[fB _ _ _ X]at h';by_cases c1:i<x' t.place j
  ·rw[if_pos c1]at h';exact k.inb _ _ h'
  ·rw[if_neg c1]at h';by_cases c3:i=x' t.place j
   ·rw[if_pos c3]at h';cases h';exact O
   ·rw[if_neg c3]at h';exact k.inb _ _ h'
 ·intro J U h;have up:∀{a b},At t.place es a b->At (er t.place (x' t.place j) j) (er es (x' t.place j) e) a b:=λz=>(Dg k.siz X _ _).mpr (.inl z);rcases (Dg k.siz X J U).mp h with h'|⟨rfl,rfl⟩
  ·obtain⟨n,T,Q⟩:=k.way _ _ h';exact⟨n,T,λm hm=>let ⟨x,hx⟩:=Q m hm;⟨x,up hx⟩⟩
  ·exact⟨K,H,λm hm=>let ⟨x,hx⟩:=I m hm;⟨x,up hx⟩⟩
abbrev Ip:=Array (Option Nat)
def Bk(o:Ip)(j:Nat):Prop:=∃k,o[j]? =ar (ar k)
structure Laid(m:Nat)(hs:List Int)(o:Ip):Prop where
 siz:o.size=m+1
 way:∀(j k:Nat),o[j]? =ar (ar k)->∃x,hs[k]? =ar x/\∃n,(cA m x n).j=j/\∀i,i<n->Bk o (cA m x i).j
theorem tV{o:Ip}(Q:o.size=m+1)(h:Int)(R:Nat)(N:o[(gR m h R).1]? =ar none):∀(fuel n:Nat),n<=R->R - n<fuel->
  ∃idx,sH m h n<=idx/\Q_ m o fuel (gR m h n).1 (gR m h n).2=ar (cA m h idx).j/\o[(cA m h idx).j]? =ar none/\∀i,sH m h n<=i->i<idx->Bk o (cA m h i).j
 |0,n,h1,h2=>by omega
 | fuel+1,n,h1,h2=>by
  have S:Ti m (gR m h n).1+1 - (gR m h n).1=run m (gR m h n).1+1:=by unfold run Ti;split<;>omega
  have P:(gR m h n).1+run m (gR m h n).1<=m:=by have:=Dd m h n;unfold run Ti;split<;>omega
  have get:∀k,k<=run m (gR m h n).1->o.getD ((gR m h n).1+k) (ar 0)=o[(gR m h n).1+k]?.getD (ar 0):=λk _=>by simp
  have T:∀k,k<=run m (gR m h n).1->(o.getD ((gR m h n).1+k) (ar 0)).isNone=dt->Bk o (cA m h (sH m h n+k)).j:=λk U O=>by
   rw[uU m h n k U];have X:(gR m h n).1+k<o.size:=by omega
   rw[get k U,Nz X]at O;cases e:o[(gR m h n).1+k]with
   |none=>simp[e]at O
   |some z=>exact⟨z,by rw[Nz X,e]⟩
  unfold Q_;rw[S];cases q:(d_ (run m (gR m h n).1+1)).find? (λk=>(o.getD ((gR m h n).1+k) (ar 0)).isNone)with
  | some k=>
   simp only;have U:=List.find?_some q;have Z:k<=run m (gR m h n).1:=by have:=Q3 q;rw[NR]at this;omega
   refine⟨sH m h n+k,by omega,by rw[uU m h n k Z],?_,λi a b=>?_⟩
   ·rw[uU m h n k Z];have X:(gR m h n).1+k<o.size:=by omega
    rw[get k Z,Nz X]at U;rw[Nz X];cases e:o[(gR m h n).1+k]with
    |none=>rfl
    |some z=>simp[e]at U
   ·obtain⟨d,rfl⟩:∃d,i=sH m h n+d:=⟨i - sH m h n,by omega⟩;refine T d (by omega) ?_;have Y:=List.find?_eq_some_iff_getElem.mp q;obtain⟨_,I,J,e1,e2⟩:=Y;simp at e1;subst e1;have:=e2 d (by omega);simpa using this
  | none=>
   simp only;have Y:=List.find?_eq_none.mp q;have W:∀k,k<=run m (gR m h n).1->Bk o (cA m h (sH m h n+k)).j:=λk U=>T k U (by have:=Y k (NR.mpr (by omega));exact Rj.mpr this)
   have K:n≠R:=λz=>by subst z;obtain⟨k,e⟩:=W 0 (NN _);rw[uU m h n 0 (NN _)]at e;rw[Nat.add_zero,N]at e;cases e
   obtain⟨idx,g1,g2,g3,L⟩:=tV Q h R N fuel (n+1) (by omega) (by omega);have H:sH m h (n+1)=sH m h n+run m (gR m h n).1+1:=rfl;refine⟨idx,by omega,g2,g3,λi a b=>?_⟩;by_cases hi:sH m h (n+1)<=i
   ·exact L i hi b
   ·obtain⟨d,rfl⟩:∃d,i=sH m h n+d:=⟨i - sH m h n,by omega⟩;exact W d (by omega)
def dv(m:Nat)(f:Nat->Option Nat):List (Nat×Nat):=(d_ (m+1)).filterMap λj=>(f j).map λk=>(j,k)
theorem nP{α β:Type}{f g:α->Option β}:∀{l:List α},(∀x∈l,f x=g x)->l.filterMap f=l.filterMap g
 |[],_=>rfl
 |x::l,h=>by rw[Oh,Oh,h x NF,nP λy Z=>h y (Nx _ Z)]
theorem Dh{f g:Nat->Option Nat}(U:j<m+1)(W:f j=none)(X:g j=ar k)(Y:∀i,i≠j->g i=f i):(dv m g).Perm ((j,k)::dv m f):=by
 unfold dv;have e:d_ (m+1)=d_ j++j::(n3 (j+1) (m - j)):=by rw[QI,QI,show m+1=j+(1+(m - j)) by omega, <-List.range'_append_1, <-List.range'_append_1];simp
 rw[e,List.filterMap_append,List.filterMap_append,Oh,Oh,W,X];simp only[E_,Option.map_none];rw[nP (l:=d_ j) (g:=λj=>(f j).map λk=>(j,k)) λx Z=>by rw[Y x (by rw[NR]at Z;omega)],
  nP (l:=n3 (j+1) (m - j)) (g:=λj=>(f j).map λk=>(j,k)) λx Z=>by rw[Y x (by rw[OP]at Z;omega)]]
 exact List.perm_middle
def fo(o:Ip)(j:Nat):Option Nat:=o.getD j none
theorem rz:fo o j=ar k↔o[j]? =ar (ar k):=by
 unfold fo;rw[N8];cases o[j]? with
 |none=>simp
 |some z=>simp
structure LaidN(m:Nat)(hs:List Int)(o:Ip):Prop extends Laid m hs o where
 all:((dv m (fo o)).map (·.2)).Perm (d_ hs.length)
theorem wx(L:LaidN m hs o):(dv m (fo o)).length=hs.length:=by have:=L.all.length_eq;simpa using this
theorem wy(L:LaidN m hs o)(S:hs.length<=m):∃j,j<=m/\o[j]? =ar none:=by
 apply Q0;intro U;have Y:∀j,j∈d_ (m+1)->∃k,fo o j=ar k:=λj X=>by
  rw[NR]at X;have Z:j<o.size:=by rw[L.siz];exact X
  cases e:o[j]with
  |none=>exact absurd ⟨j,by omega,by rw[Nz Z,e]⟩ U
  |some k=>exact⟨k,rz.mpr (by rw[Nz Z,e])⟩
 have:∀l:List Nat,(∀j∈l,∃k,fo o j=ar k)->(l.filterMap λj=>(fo o j).map λk=>(j,k)).length=l.length:=by
  intro l
  induction l with
  |nil=>intro _;rfl
  |cons x l ih=>
   intro h;obtain⟨k,e⟩:=h x NF;rw[Oh,e];simp only[E_,r7];rw[ih λj X=>h j (Nx _ X)]
 have T:=this _ Y;have W:=wx L;unfold dv at W;rw[T,NS]at W;omega
theorem Di(H:G1 m)(L:LaidN m hs o)(G:hs.length<=m)(x:Int):
  ∃j,Q_ m o (TV m) (TU x % (m+1)) (TU x)=ar j/\LaidN m (hs++[x]) (o.setIfInBounds j (ar hs.length)):=by
 obtain⟨Q,S,W⟩:=wy L G;obtain⟨J,I,U⟩:=De H x Q S;obtain⟨idx,_,g2,g3,O⟩:=tV L.siz x J (by rw[U];exact W) (TV m) 0 (NN _) (by unfold TV;omega);refine⟨(cA m x idx).j,g2,?_⟩;generalize hj:(cA m x idx).j=j at g3⊢;have Y:j<o.size:=(NQ.mp g3).1;have self:(o.setIfInBounds j (ar hs.length))[j]? =ar (ar hs.length):=by simp[Y]
 have X:∀i,i≠j->(o.setIfInBounds j (ar hs.length))[i]? =o[i]? :=λi Z=>by rw[Array.getElem?_setIfInBounds_ne (k_ Z)]
 have up:∀i,Bk o i->Bk (o.setIfInBounds j (ar hs.length)) i:=λi ⟨k,e⟩=>by
  by_cases Z:i=j
  ·subst Z;exact⟨_,self⟩
  ·exact⟨k,by rw[X i Z];exact e⟩
 refine⟨⟨by rw[Array.size_setIfInBounds];exact L.siz,λi k e=>?_⟩,?_⟩
 ·by_cases Z:i=j
  ·subst Z;rw[self]at e;cases e;exact⟨x,by simp,idx,hj,λq T=>up _ (O q (NN _) T)⟩
  ·rw[X i Z]at e;obtain⟨y,R,n,K,N⟩:=L.way i k e;refine⟨y,?_,n,K,λq T=>up _ (N q T)⟩;rw[NZ (Nt.mp R).1];exact R
 ·have P:=Dh (m:=m) (j:=j) (k:=hs.length) (f:=fo o) (g:=fo (o.setIfInBounds j (ar hs.length))) (by rw[<-L.siz];exact Y)
   (by unfold fo;rw[N8,g3];rfl) (rz.mpr self) (λi Z=>by unfold fo;rw[N8,N8,X i Z])
  refine(P.map (·.2)).trans ?_;rw[Nn,Qz,List.range_succ];exact(K' _ L.all).trans (List.perm_append_singleton _ _).symm
theorem zY(W:G1 m):∀(rest hs:List Int) (o:Ip),LaidN m hs o->hs.length+rest.length<=m+1->
  ∃Y,rest.foldl (λ(acc:Option (Ip×Nat)) h=>do
   let (owner,k)<-acc;let j<-Q_ m owner (TV m) (TU h % (m+1)) (TU h)
   a_ (owner.setIfInBounds j (ar k),k+1)) (ar (o,hs.length))=ar (Y,hs.length+rest.length)/\LaidN m (hs++rest) Y
 |[],hs,o,L,_=>⟨o,rfl,by rw[NT];exact L⟩
 |x::rest,hs,o,L,hl=>by
  rw[NU]at hl;obtain⟨j,e,U⟩:=Di W L (by omega) x;obtain⟨Y,X,Z⟩:=zY W rest (hs++[x]) _ U (by simp;omega);refine⟨Y,?_,by rw[ND]at Z;exact Z⟩;rw[List.foldl_cons];simp only[Option.bind_eq_bind,Option.bind_some,e];rw[Nn,Qz]at X;simp only[Option.bind_eq_bind]at X;rw[NU,show hs.length+(rest.length+1)=hs.length+1+rest.length by omega];exact X
theorem Bl(X:G1 m)(Z:Array Int)(W:Z.size<=m+1):∃o,layClean m Z=ar o/\LaidN m Z.toList o:=by
 have Y:LaidN m [] (u4 (m+1) none):=by
  refine⟨⟨by simp,λj k e=>?_⟩,?_⟩
  ·rw[Rk]at e;split at e<;>cases e
  ·have:dv m (fo (u4 (m+1) none))=[]:=by
    unfold dv;rw[List.filterMap_eq_nil_iff];intro j _;have:fo (u4 (m+1) none) j=none:=by
     cases e:fo (u4 (m+1) none) j with
     |none=>rfl
     |some k=>
      rw[rz,Rk]at e;split at e<;>cases e
    rw[this];rfl
   rw[this];exact .refl _
 obtain⟨o,e,L⟩:=zY X Z.toList [] _ Y (by simpa using W);refine⟨o,?_,by simpa using L⟩;unfold layClean;rw[<-Array.foldl_toList];rw[show(u4 (m+1) (none:Option Nat),0)=(u4 (m+1) none,([]:List Int).length)from rfl];rw[e];rfl
theorem rA(f:Nat->Option Nat):∀l:List Nat,((l.filterMap λj=>(f j).map λk=>(j,k)).map (·.1)).Sublist l
 |[]=>.slnil
 |x::l=>by
  rw[Oh];cases f x with
  |none=>exact .cons _ (rA f l)
  |some k=>exact .cons₂ _ (rA f l)
theorem rB{f:Nat->Option Nat}:(j,k)∈dv m f↔j<m+1/\f j=ar k:=by
 unfold dv;rw[OV];constructor
 ·rintro⟨a,h1,h2⟩;cases e:f a with
  |none=>rw[e]at h2;cases h2
  |some b=>
   rw[e]at h2;cases h2;exact⟨NR.mp h1,e⟩
 ·rintro⟨h1,h2⟩;exact⟨j,NR.mpr h1,by rw[h2];rfl⟩
theorem Iq{l:List Nat}(h:l.Pairwise (· <·)):FE l.toArray:=by intro i j a b Z X Y;rw[Pb]at X Y;obtain⟨T,U⟩:=Nt.mp X;obtain⟨W,S⟩:=Nt.mp Y;have:=Q4.mp h i j T W Z;rw[U,S]at this;exact this
theorem Dj{α β:Type}{f:α->Option β}:∀{l:List α},(∀x∈l,∃y,f x=ar y)->∀i:Nat,(l.filterMap f)[i]? =l[i]?.bind f
 |[],_,i=>by simp
 |x::l,h,i=>by
  obtain⟨y,e⟩:=h x NF;rw[Oh,e];cases i with
  |zero=>simp[e]
  |succ i=>simpa using Dj (λz Z=>h z (Nx _ Z)) i
theorem FF{es:Array Ent}(J:G1 m)(E:es.size*5<m*3)(G H:Nat)(O K:Bool):
  ∃(t':nC) (order:Array Nat),laid m G H O K (es.map (·.1))=ar (t',order)/\order.toList.Perm (d_ es.size)/\(order.filterMap (es[·]?)).size=es.size/\TOk t' (order.filterMap (es[·]?))/\t'.led=O/\t'.plain=K/\t'.mask=m:=by
 obtain⟨o,e,L⟩:=Bl J (es.map (·.1)) (by rw[Array.size_map];omega);have hlen:(es.map (·.1)).toList.length=es.size:=by simp
 have Z:=L.all;rw[hlen]at Z;have I:∀p∈dv m (fo o),∃y,es[p.2]? =ar y:=λp R=>by have:p.2∈d_ es.size:=Z.mem_iff.mp (Pm R);rw[NR]at this;exact⟨es[p.2],Nz this⟩
 have S:(((dv m (fo o)).map (·.2)).toArray.filterMap (es[·]?)).toList=((dv m (fo o)).map (·.2)).filterMap (es[·]?):=by rw[Array.toList_filterMap]
 have X:(((dv m (fo o)).map (·.2)).toArray.filterMap (es[·]?)).toList.Perm es.toList:=by rw[S];exact(Z.filterMap _).trans (by rw[filterMap_getElem?_range])
 have W:(((dv m (fo o)).map (·.2)).toArray.filterMap (es[·]?)).size=es.size:=by have:=X.length_eq;simpa using this
 have Q:∀(j:Nat) (x:Ent),At (((dv m (fo o)).map (·.1)).toArray) (((dv m (fo o)).map (·.2)).toArray.filterMap (es[·]?)) j x↔∃k,(j,k)∈dv m (fo o)/\es[k]? =ar x:=by
  intro j x;have key:∀i:Nat,(((dv m (fo o)).map (·.2)).toArray.filterMap (es[·]?))[i]? =((dv m (fo o))[i]?).bind λp=>es[p.2]? :=λi=>by
   rw[<-NW,S,Dj (λz C=>by obtain⟨p,R,rfl⟩:=NL.mp C;exact I p R) i,NM]
   cases (dv m (fo o))[i]? <;>rfl
  constructor
  ·rintro⟨i,Y,U⟩;rw[Pb,NM]at Y;rw[key]at U;cases q:(dv m (fo o))[i]? with
   |none=>rw[q]at Y;cases Y
   |some p=>
    rw[q]at Y U;cases Y;exact⟨p.2,N4 q,U⟩
  ·rintro⟨k,Y,U⟩;obtain⟨i,P⟩:=PN.mp Y;exact⟨i,by rw[Pb,NM,P];rfl,by rw[key,P];exact U⟩
 refine⟨⟨m,((dv m (fo o)).map (·.1)).toArray, #[],G,O,H,K⟩,((dv m (fo o)).map (·.2)).toArray,?_,by simpa using Z,W,⟨⟨J,rfl,?_,?_,?_,?_⟩,?_⟩,rfl,rfl,rfl⟩
 ·unfold laid;rw[e];rfl
 ·rw[W];show(((dv m (fo o)).map (·.1)).toArray).size=_;rw[NA,Nl,wx L,hlen]
 ·exact Iq (List.Pairwise.sublist (rA _ _) List.pairwise_lt_range)
 ·intro i a h;have h':(((dv m (fo o)).map (·.1)).toArray)[i]? =ar a:=h;rw[Pb]at h';obtain⟨p,R,rfl⟩:=NL.mp (N4 h');have:=(rB.mp R).1;show p.1<=m;omega
 ·intro j x t;obtain⟨k,Y,U⟩:=(Q j x).mp t;obtain⟨s,A⟩:=rB.mp Y;obtain⟨y,g1,n,g2,g3⟩:=L.way j k (rz.mp A);have w:y=x.1:=by
   rw[NW,Array.getElem?_map,U]at g1;cases g1;rfl
  subst w;refine⟨n,g2,λi P=>?_⟩;obtain⟨u,F⟩:=g3 i P;have N:(cA m x.1 i).j<m+1:=by rw[<-L.siz];exact(NQ.mp F).1
  have T:=rB.mpr ⟨N,rz.mpr F⟩;obtain⟨v,B⟩:=I _ T;exact⟨v,(Q _ _).mpr ⟨u,T,B⟩⟩
 ·rw[W];exact E
theorem Bm{t:nC}{es:Array Ent}(W:es.size=5):∃(t':nC) (order:Array Nat),t.relaid (es.map (·.1)) (SetTable.grown 5)=ar (t',order)/\order.toList.Perm (d_ es.size)/\(order.filterMap (es[·]?)).size=es.size/\
  TOk t' (order.filterMap (es[·]?))/\t'.led=t.led/\t'.plain=t.plain:=by
 obtain⟨t',o,S,X,Z,T,U,Y,_⟩:=FF (es:=es) (m:=31) (.inr rfl) (by rw[W];decide) t.finger (t.movedTo 31) t.led t.plain;exact⟨t',o,S,X,Z,T,U,Y⟩
end S4
namespace S4
open PySem PySem.Spec PyProof.Rows
section
variable {prog:eb}{w:eK}{A:gg}{E:aC->b_->Prop}{s:b_}
theorem items_int(h:ItemsAre (o_ prog w) ks vs):∀v∈vs,∃n t,v=r_ n t:=by
 induction h with
 |nil=>intro v Z;cases Z
 | cons h1 _ ih=>
  intro v Z;rcases NJ.mp Z with rfl|Z
  ·obtain⟨t,e⟩:=Value.isInt_shape h1;exact⟨_,t,e⟩
  ·exact ih v Z
theorem Bo{Q:Bool->b_->Prop}(Y:l_ (o_ prog w) s.heap ks a)(h:Q cn s):ed (fb prog w) A (SQ 8 (.ref a)) Q E s:=by
 have W:=Y.typeIs;obtain⟨o,items,n,X,_,hd,U⟩:=Y;unfold SQ;refine Nk (wpAny_specialOf W F.slot_tuple_hash.lookup ?_);show ed _ _ (TB (.ref a)>>=_) _ _ s;refine Nk (OT X hd ?_);refine Nk ?_;show ed _ _ (Ud items _ _) _ _ s;rw[<-Array.forIn_toList];refine QC _ (λrest r s'=>r.1=none/\s'=s/\∀v∈rest,∃n t,v=r_ n t) _ ?_ ?_ _ _ ⟨rfl,rfl,items_int U⟩
 ·rintro v rest r s' ⟨hr,rfl,hall⟩;obtain⟨i,t,rfl⟩:=hall v NF;refine Nk ?_;unfold SQ;refine Nr ?_;simp only[y1,e_,if_false];exact Nr ⟨rfl,rfl,λu Z=>hall u (Nx _ Z)⟩
 ·rintro⟨r1,r2⟩ s' ⟨hr,rfl,_⟩;simp only at hr;subst hr;exact Nr h
theorem pE{Q:Bool->b_->Prop}(Y:l_ (o_ prog w) s.heap ks a)(h:Q dt s):ed (fb prog w) A (O_ 8 (.ref a)) Q E s:=by
 have W:=Y.typeIs;obtain⟨o,items,n,X,_,hd,U⟩:=Y;unfold O_;refine Nk (Qy W ?_);simp only;rw[if_pos (by decide)];refine Nk (Nr ?_);simp only[y1,e_,if_false];refine Nk (OT X hd ?_);simp only;refine Nk ?_;show ed _ _ (Ud items _ _) _ _ s;rw[<-Array.forIn_toList];refine QC _ (λrest r s'=>r.1=none/\s'=s/\∀v∈rest,∃n t,v=r_ n t) _ ?_ ?_ _ _ ⟨rfl,rfl,items_int U⟩
 ·rintro v rest r s' ⟨hr,rfl,hall⟩;obtain⟨i,t,rfl⟩:=hall v NF;refine Nk ?_;unfold O_;refine Nr ?_;simp only[e_,if_false];exact Nr ⟨rfl,rfl,λu Z=>hall u (Nx _ Z)⟩
 ·rintro⟨r1,r2⟩ s' ⟨hr,rfl,_⟩;simp only at hr;subst hr;exact Nr h
theorem Ir(Y:l_ (o_ prog w) s.heap kx ax)(U:∀y∈ys,∃k a,y= .ref a/\l_ (o_ prog w) s.heap k a){Q:Bool->b_->Prop}(h:Q dt s):
  ed (fb prog w) A (searchCouldBeSeen (.ref ax) ys) Q E s:=by
 unfold searchCouldBeSeen;refine Nk ?_;refine QC _ (λrest r s'=>r.1=none/\s'=s/\∀v∈rest,∃k a,v= .ref a/\l_ (o_ prog w) s.heap k a) _ ?_ ?_ _ _ ⟨rfl,rfl,U⟩
 ·rintro v rest r s' ⟨hr,rfl,hall⟩;obtain⟨k,a,rfl,W⟩:=hall v NF;have X:∀u∈rest,∃k a,u= .ref a/\l_ (o_ prog w) s'.heap k a:=λu Z=>hall u (Nx _ Z);simp only;split
  ·exact Nr ⟨rfl,rfl,X⟩
  ·refine Nk (wpAny_eqIsQuiet_tuple Y ?_);simp only[y1,e_,if_false];refine Nk (wpAny_eqIsQuiet_tuple W ?_);simp only[y1,e_,if_false];refine Nk (pE Y ?_);simp only[e_,if_false];refine Nk (pE W ?_);simp only[e_,if_false];exact Nr ⟨rfl,rfl,X⟩
 ·rintro⟨r1,r2⟩ s' ⟨hr,rfl,_⟩;simp only at hr;subst hr;exact Nr h
abbrev KA:=List Int×bc
def jo(prog:eb)(w:eK)(k:List Int):Int:=tupleKeyHash (o_ prog w) k
def ent(prog:eb)(w:eK)(p:KA):Ent:=(jo prog w p.1,.ref p.2)
def yz(prog:eb)(w:eK)(h:f')(L:List KA):Prop:=∀p∈L,l_ (o_ prog w) h p.1 p.2
structure SetAt(prog:eb)(w:eK)(h:f')(a:bc)(o:Obj)(es:Array Ent)(ep:Nat)(t:nC)(L:List KA):Prop where
 get:h.get? a=ar o
 ex:o.ExactSet
 dat:o.data= .set es ep t
 ok:TOk t es
 pln:t.plain=cn
 led:t.led= !(w.params.followText "set-order")
 ents:es.toList=L.map (ent prog w)
 nd:(L.map (·.1)).Nodup
theorem SetAt.fits(k:SetAt prog w h a o es ep t L):t.fits es.size=true:=k.ok.fits k.ok.le
theorem SetAt.ent_at(k:SetAt prog w h a o es ep t L)(i:Nat):es[i]? =(L[i]?).map (ent prog w):=by rw[<-NW,k.ents,NM]
theorem SetAt.len(k:SetAt prog w h a o es ep t L):es.size=L.length:=by rw[<-Pl,k.ents,Nl]
theorem Dk{t:nC}:t.sameMemory t.moves t.mask=ar true:=by unfold SetTable.sameMemory;simp
theorem tW{a ax:bc}{o:Obj}{es:Array Ent}{ep:Nat}{t:nC}{L:List KA}{Z:List Int}(hu:A.units<u3)(k:SetAt prog w s.heap a o es ep t L)(g:yz prog w s.heap L)(b:l_ (o_ prog w) s.heap Z ax)
  {K:Nat} (B:t.slot (cA t.mask (jo prog w Z) K).j= .empty) (I:K<10*L0 t.mask) {Q:SetFound->b_->Prop}
  (U:Z∈L.map (·.1)->Q (.there none) s)
  (N:Z∉L.map (·.1)->∀n,t.slot (cA t.mask (jo prog w Z) n).j= .empty->(∀m,m<n->∃i,t.slot (cA t.mask (jo prog w Z) m).j= .live i)->Q (.free (cA t.mask (jo prog w Z) n).j dt) s):
  ∀(fuel n:Nat) (st:Option SetTable.Probe),st.getD (t.probeStart (jo prog w Z))=cA t.mask (jo prog w Z) n->n<=K->K - n<fuel->
   (∀m,m<n->∃i,t.slot (cA t.mask (jo prog w Z) m).j= .live i/\∀p,L[i]? =ar p->p.1≠Z)->ed (fb prog w) A (setSearchFrom a (.ref ax) (jo prog w Z) cn fuel st) Q E s
 |0,n,st,e,v,h2,h3=>by omega
 | fuel+1,n,st,e,v,h2,h3=>by
  have odd:t.gaveWay=false:=by unfold SetTable.gaveWay;rcases k.ok.msk with h|h<;>rw[h]<;>rfl
  unfold setSearchFrom;refine Nk (OQ k.get k.dat k.fits ?_);simp only;rw[odd];simp only[e_,if_false];rw[e];obtain⟨Y,g1,g2,g3,g4⟩:=zX k.ok.dum (λi=>(es[i]?.map (·.1)).getD 0) (jo prog w Z) K B (10*L0 t.mask) n v (by omega);have stored:∀(i:Nat) (p:KA),L[i]? =ar p->(es[i]?.map (·.1)).getD 0=jo prog w p.1:=λi p W=>by rw[k.ent_at,W];rfl
  have before:∀m,m<Y->∃i,t.slot (cA t.mask (jo prog w Z) m).j= .live i/\∀p,L[i]? =ar p->p.1≠Z:=λm hm=>by
   by_cases hmn:m<n
   ·exact h3 m hmn
   ·obtain⟨i,R,r⟩:=g3 m (by omega) hm;refine⟨i,R,λp W z=>r ?_⟩;rw[stored i p W,z]
  rcases g4 with⟨c1,c2⟩|⟨i,c1,c2,c3⟩
  ·generalize hpr:t.probe _ (jo prog w Z) (cA t.mask (jo prog w Z) n)=pr;have ep:pr=ar (.empty (cA t.mask (jo prog w Z) Y).j none):=hpr.symm.trans c2;subst ep;simp only;refine Nr (N (λP=>?_) Y c1 λm hm=>let ⟨i,q,_⟩:=before m hm;⟨i,q⟩);obtain⟨p,W,rfl⟩:=NL.mp P;obtain⟨F,G⟩:=PN.mp W;have X:es[F]? =ar (ent prog w p):=by rw[k.ent_at,G];rfl
   have S:F<t.place.size:=by rw[k.ok.siz];exact(NQ.mp X).1
   have f:At t.place es t.place[F] (ent prog w p):=⟨F,Nz S,X⟩;obtain⟨d,w1,w2⟩:=k.ok.way _ _ f;have O:(cA t.mask (jo prog w p.1) d).j=t.place[F]:=w1;rcases Nat.lt_or_ge d Y with l|l
   ·obtain⟨i,R,r⟩:=before d l;rw[O,qi k.ok.ris (Nz S)]at R;cases R;exact r p G rfl
   ·rcases Nat.eq_or_lt_of_le l with l|l
    ·subst l;rw[O,qi k.ok.ris (Nz S)]at c1;cases c1
    ·obtain⟨e',i',R,_⟩:=w2 Y l;have u:t.place[i']? =ar (cA t.mask (jo prog w p.1) Y).j:=R;rw[qi k.ok.ris u]at c1;cases c1
  ·generalize hpr:t.probe _ (jo prog w Z) (cA t.mask (jo prog w Z) n)=pr;have ep:pr=ar (.candidate (cA t.mask (jo prog w Z) Y).j i (cA t.mask (jo prog w Z) (Y+1))):=hpr.symm.trans c3;subst ep;simp only;have hi:i<es.size:=by rw[<-k.ok.siz];exact(NQ.mp (oJ c1)).1
   have T:i<L.length:=by rw[<-k.len];exact hi
   have W:L[i]? =ar L[i]:=Np T;have X:es[i]? =ar (ent prog w L[i]):=by rw[k.ent_at,W];rfl
   have C:l_ (o_ prog w) s.heap L[i].1 L[i].2:=g _ (Ot T);have c:∀y∈EA (λx:Ent=>x.snd) (Array.filter (λx:Ent=>x.fst==jo prog w Z) es).toList,∃k a,y= .ref a/\l_ (o_ prog w) s.heap k a:=λy hy=>by
    obtain⟨e1,v,rfl⟩:=NL.mp hy;have H:e1∈es.toList:=by have:=QG.mp v;exact QG.mpr (Array.mem_filter.mp this).1
    rw[k.ents]at H;obtain⟨p,W,rfl⟩:=NL.mp H;exact⟨p.1,p.2,rfl,g p W⟩
   split
   case' isTrue=>
    refine Nk (Ir b c ?_);simp only[e_,if_false]
   all_goals
    rw[X];simp only[ent];refine Nk (Oi (wpAny_eqBool_tuple hu C b ?_));refine Nk (OQ k.get k.dat k.fits ?_);by_cases hq:L[i].1=Z
    ·rw[NI hq];simp only[Sj,if_true];exact Nr (U (NL.mpr ⟨_,Ot T,hq⟩))
    ·rw[N7 hq];simp only[RV,e_,if_false];rw[Dk];simp only[if_true];rw[c1];simp only;rw[X];simp only[ent];refine Nk (wpAny_isSame_ref_self (Nk (Nr ?_)));simp only[if_true];refine tW hu k g b B I U N fuel (Y+1) _ rfl ?_ ?_ λm hm=>?_
     ·have:Y≠K:=λz=>by subst z;rw[B]at c1;cases c1
      omega
     ·have:Y≠K:=λz=>by subst z;rw[B]at c1;cases c1
      omega
     ·by_cases hmn:m<Y
      ·exact before m hmn
      ·have:m=Y:=by omega
       subst this;exact⟨i,c1,λp J=>by rw[W]at J;cases J;exact hq⟩
end
def KG(L:List KA)(p:KA)(L':List KA):Prop:=(p.1∈L.map (·.1)/\L'=L)\/(p.1∉L.map (·.1)/\L'.Perm (p::L))
section
variable {prog:eb}{w:eK}{A:gg}{E:aC->b_->Prop}{s:b_}
theorem zZ{h:f'}(Y:h.get? a=ar o)(Z:o.data= .set es ep t):(h.update a (RS es' t')).get? a=ar {o with data:=.set es' (ep+1) t'}:=by have:=Ox (RS es' t') Y (by rw[putSet_of es' t' Z];rfl);rw[putSet_of es' t' Z]at this;exact this
theorem Iu(hu:A.units<u3)(k:SetAt prog w s.heap a o es ep t L)(hL:yz prog w s.heap L)(hx:l_ (o_ prog w) s.heap kx ax)
  (a0:L.length<18) {Q:Bool->b_->Prop}
  (h:∀b h' o' es' ep' t' J,SetAt prog w h' a o' es' ep' t' J->s_ a s.heap h'->KG L (kx,ax) J->Q b {s with heap:=h'}):
  ed (fb prog w) A (setAddHashed a (.ref ax) (jo prog w kx)) Q E s:=by
 obtain⟨j0,u,x⟩:=Bj k.ok.ris k.ok.dum (by rw[k.ok.siz];exact k.ok.le);obtain⟨K,l,r⟩:=cover k.ok.msk (jo prog w kx) j0 u;have f:10*L0 t.mask<=100000:=by unfold L0;rcases k.ok.msk with z|z<;>rw[z]<;>decide
 unfold setAddHashed setAddHashedIn;refine Oi (Nk (OQ k.get k.dat k.fits ?_));have v:byScan (.ref ax) es=false:=by simp[byScan,Value.scannable]
 simp only[v,e_,if_false];unfold setSearch;refine Nk ?_;refine tW hu k hL hx (by rw[r];exact x) l ?_ ?_ 100000 0 none rfl (NN _) (by omega) (λm hm=>by omega)
 ·intro Z;simp only;refine Nr ?_;have e:s={s with heap:=s.heap}:=by cases s;rfl
  rw[e];exact h _ s.heap o es ep t L k (Heap.SameBut.refl a s.heap) (.inl ⟨Z,rfl⟩)
 ·intro Z n hn hb;simp only;refine Nk (OQ k.get k.dat k.fits ?_);generalize hj:(cA t.mask (jo prog w kx) n).j=j at hn;have C:j<=t.mask:=by
   rw[<-hj];rcases Nat.eq_zero_or_pos n with z|z
   ·subst z;show SetTable.bits _ % (t.mask+1)<=t.mask;have:=Rg (SetTable.bits (jo prog w kx)) (show t.mask+1>0 by omega);omega
   ·exact FD _ _ _ k.ok.msk
  obtain⟨T,B,y,I⟩:=Io (e:=ent prog w (kx,ax)) (K:=n) k.ok.toTPre C hn hj λm hm=>by obtain⟨i,q⟩:=hb m hm;obtain⟨e',_,q'⟩:=k.ok.toTPre.at_of (oJ q);exact⟨e',q'⟩
  generalize hP:t.put j=P at T B y I⊢;obtain⟨t1,pp⟩:=P;simp only at T B y I⊢;have T:TPre t1 (er es pp (jo prog w kx,ee ax)):=T;rw[if_pos (by rw[I];exact k.pln)];refine Nk (Bo hx ?_);simp only[if_true];have Y:(er es pp (jo prog w kx,ee ax)).size=es.size+1:=rq _ _ _;have hlen:=k.len;refine Nk (wpAny_storeSet_of k.get k.dat ?_ (by rw[Y,OI];omega));have g1:=zZ (es':=er es pp (jo prog w kx,ee ax)) (t':=t1) k.get k.dat;have G:=OR s.heap a (RS (er es pp (jo prog w kx,ee ax)) t1);have W:(er es pp (jo prog w kx,ee ax)).toList=(L.take pp++(kx,ax)::L.drop pp).map (ent prog w):=by rw[SetTable.toList_insertAt,k.ents,NX,NH,List.map_take,List.map_drop];rfl
  have X:(L.take pp++(kx,ax)::L.drop pp).Perm ((kx,ax)::L):=by
   have:=List.perm_middle (a:=(kx,ax)) (l₁:=L.take pp) (l₂:=L.drop pp)
   rwa [List.take_append_drop]at this
  have g:((kx::L.map (·.1))).Nodup:=Ol.mpr ⟨Z,k.nd⟩;have H:∀J:List KA,J.Perm ((kx,ax)::L)->(J.map (·.1)).Nodup:=λJ hp=>(Pn (hp.map (λp:KA=>p.1))).mpr g;by_cases hful:t1.tooFull=cn
  ·rw [hful];simp only[Bool.not_false,Sj,if_true];have N:(es.size+1)*5 ≥ t.mask*3:=by
    unfold SetTable.tooFull SetTable.fill at hful;rw[T.siz,T.dum,B,Y]at hful;simpa using hful
   have c:es.size+1=5:=by have:=k.ok.few;rcases k.ok.msk with z|z<;>rw[z]at N this<;>omega
   obtain⟨t2,ord,r1,r2,d,r4,r5,r6⟩:=Bm (t:=t1) (es:=er es pp (jo prog w kx,ee ax)) (by rw[Y];exact c);have F:t1.fits (er es pp (jo prog w kx,ee ax)).size=true:=T.fits (by rw[Y,B];have:=k.ok.few;rcases k.ok.msk with z|z<;>rw[z]at this⊢<;>omega)
   unfold setRelay;refine Nk (Nk (OQ (s:={s with heap:=s.heap.update a (RS (er es pp (jo prog w kx,ee ax)) t1)}) g1 rfl F ?_));simp only;rw[c];rw[if_neg (by rw[OI];decide)];rw[r1];refine Nk ?_;have step:∀(R:Array Ent×nC->b_->Prop) (s1:b_),R (ord.filterMap ((er es pp (jo prog w kx,ee ax))[·]?),t2) s1->
     ed (fb prog w) A (if ((ord.filterMap ((er es pp (jo prog w kx,ee ax))[·]?)).size !=(er es pp (jo prog w kx,ee ax)).size)=cn
      then (do unsupported "internal:set-table-lost-an-element";a_ (ord.filterMap ((er es pp (jo prog w kx,ee ax))[·]?),t2))else a_ (ord.filterMap ((er es pp (jo prog w kx,ee ax))[·]?),t2)) R E s1:=λR s1 hR=>by
    rw[if_neg (by rw[d];simp)];exact Nr hR
   refine step _ _ ?_;refine wpAny_storeSet_of (s:={s with heap:=s.heap.update a (RS (er es pp (jo prog w kx,ee ax)) t1)}) g1 rfl ?_ (by rw[d,Y,OI];omega);have S:(ord.filterMap ((er es pp (jo prog w kx,ee ax))[·]?)).toList=(ord.toList.filterMap ((L.take pp++(kx,ax)::L.drop pp)[·]?)).map (ent prog w):=by rw[Array.toList_filterMap,List.map_filterMap];refine nP λi _=>?_;rw[<-NW,W,NM]
   have U:(ord.toList.filterMap ((L.take pp++(kx,ax)::L.drop pp)[·]?)).Perm ((kx,ax)::L):=by
    refine(r2.filterMap _).trans ?_;have e1:(er es pp (jo prog w kx,ee ax)).size=(L.take pp++(kx,ax)::L.drop pp).length:=by rw[<-Pl,W,Nl]
    rw[e1,List.filterMap_getElem?_range_length];exact X
   refine Nr (h _ _ _ _ _ _ _ ⟨zZ g1 rfl,k.ex,rfl,r4,by rw[r6,I];exact k.pln,by rw[r5,y];exact k.led,S,H _ U⟩ (G.trans (OR _ a _)) (.inr ⟨Z,U⟩))
  ·simp only[hful,RV,e_,if_false];refine Nr ?_;refine h _ _ _ _ _ _ _ ⟨g1,k.ex,rfl,⟨T,?_⟩,by rw[I];exact k.pln,by rw[y];exact k.led,W,H _ X⟩ G (.inr ⟨Z,X⟩);unfold SetTable.tooFull SetTable.fill at hful;rw[T.siz,T.dum]at hful;have O:¬ (er es pp (jo prog w kx,ee ax)).size*5 ≥ t1.mask*3:=by simpa using hful
   exact Nat.lt_of_not_ge O
end
theorem yA{h':f'}(x:l_ (o_ prog w) h k a)(e:∀o,h.get? a=ar o->h'.get? a=ar o):l_ (o_ prog w) h' k a:=
 let ⟨o,its,n,ho,r⟩:=x
 ⟨o,its,n,e o ho,r⟩
theorem SetAt.at{h':f'}(k:SetAt prog w h a o es ep t L)(e:∀o,h.get? a=ar o->h'.get? a=ar o):SetAt prog w h' a o es ep t L:=
 {k with get:=e o k.get}
structure Folded(kv L:List KA):Prop where
 nd:(L.map (·.1)).Nodup
 mem:∀k,k∈L.map (·.1)↔k∈kv.map (·.1)
 sub:∀p∈L,p∈kv
 len:L.length<=kv.length
theorem Folded.nil:Folded [] []:=⟨.nil,λ_=>.rfl,λ_ h=>h,Nq _⟩
theorem Folded.add(f:Folded kv L)(h:KG L p L'):Folded (kv++[p]) L':=by
 rcases h with⟨h1,rfl⟩|⟨h1,h2⟩
 ·refine⟨f.nd,λk=>?_,λq Z=>OL _ (f.sub q Z),by have:=f.len;simp;omega⟩;rw[f.mem,NX,Oj];refine⟨.inl,λz=>z.elim id λz=>?_⟩;have:k=p.1:=by simpa using z
  rw[this];exact(f.mem _).mp h1
 ·have hm:=h2.map (λq:KA=>q.1);refine⟨(Pn hm).mpr (Ol.mpr ⟨h1,f.nd⟩),λk=>?_,λq Z=>?_,by have:=f.len;rw[h2.length_eq];simp;omega⟩
  ·rw[hm.mem_iff,NH,NJ,f.mem,NX,Oj];constructor
   ·rintro(rfl|z)
    ·exact .inr (by simp)
    ·exact .inl z
   ·rintro(z|z)
    ·exact .inr z
    ·exact .inl (by simpa using z)
  ·rcases NJ.mp (h2.mem_iff.mp Z)with rfl|z
   ·exact NG _ (Og.mpr rfl)
   ·exact OL _ (f.sub q z)
section
variable {prog:eb}{w:eK}{A:gg}{R:TH->b_->Prop}{I:bc}{fp wr:List bc}{G:Array RW->Array RW->Prop}{n:Nat}{P:Nat->aC->Prop}{St:Nat->b_->Prop}
theorem FG(W:WalksS prog w A.in1 I fp wr G n P St)(H:S∉fp)(Z:Nat->KA)(J:∀i v,P i v->v= .ref (Z i).2)(hn:n<=18)(d:A.in1.units<u3)(C:∀i,i<n->(Z i).2∉S::wr):
  ∀(c i:Nat) (s:b_),n - i=c->i<=n->St i s->(∀j,j<n->l_ (o_ prog w) s.heap (Z j).1 (Z j).2)->∀o es ep t L,SetAt prog w s.heap S o es ep t L->Folded ((d_ i).map Z) L->
   (∀s',Moved (S::wr) G s s'->∀o es ep t L,SetAt prog w s'.heap S o es ep t L->Folded ((d_ n).map Z) L->R (.ok (.ret .none)) s')->
   t_ (fb prog w) A (.builtin "set.update.loop" ⟨[.ref S,.ref I],[]⟩) R s:=by
 have y:S∉wr:=λh=>H (W.sub _ h);have X:∀b∈wr,b∈S::wr:=λb K=>Nx _ K;intro c
 induction c with
 |zero=>
  intro i s a hi Q f o es ep t L k E l;obtain rfl:i=n:=by omega
  refine PP F.entry_set_update_loop ?_;rw[Pe Qi _];show ed _ A.in1 (A' (.ref I)>>=_) _ _ s;refine Nk (W.done s _ _ Q λs' hm=>?_);show ed _ A.in1 (ret h_) _ _ s';exact Nr (l s' (hm.mono X) o es ep t L (k.at λN e=>hm.heap S N y e) E)
 | succ c ih=>
  intro i s a hi Q f o es ep t L k E l;have Y:i<n:=by omega
  refine PP F.entry_set_update_loop ?_;rw[Pe Qi _];show ed _ A.in1 (A' (.ref I)>>=_) _ _ s;refine Nk (W.item i s _ _ Y Q λv s' hP B hm=>?_);cases J i v hP;have r:=k.at (h':=s'.heap) λN e=>hm.heap S N y e;have U:∀j,j<n->l_ (o_ prog w) s'.heap (Z j).1 (Z j).2:=λj T=>yA (f j T) λN e=>hm.heap _ N (λz=>C j T (X _ z)) e;show ed _ A.in1 (y' [ee (Z i).2] (setAdd S (.ref (Z i).2))>>=_) _ _ s';refine Nk (Oi ?_);unfold setAdd;refine Oi ?_;refine Nk (wpAny_pyHash_tuple d (U i Y) ?_);have b1:L.length<=i:=by have:=E.len;simpa using this
  have g:yz prog w s'.heap L:=λp hp=>by obtain⟨j,T,rfl⟩:=NL.mp (E.sub p hp);exact U j (QY (NR.mp T) Y)
  refine Iu (s:={s' with toks:=s'.toks+((Z i).1.length+1)}) d r g (U i Y) (by omega) λb h' N es' a0 t' L' m O hA=>?_;have q:Folded ((d_ (i+1)).map Z) L':=by rw[List.range_succ,NX];exact E.add hA
  refine Nr ⟨Ro Qi _,ih (i+1) _ (by omega) Y (W.frame _ s' _ _ B (Pp _ _) λb K o e=>?_) (λj T=>yA (U j T) λo e=>?_) _ _ _ _ _ m q λu x=>?_⟩
  ·rw[O.2 b (λh:b=S=>H (by rw[<-h];exact K))];exact e
  ·rw[O.2 _ (λh=>C j T (by rw[h];exact NF))];exact e
  ·refine l u (Moved.trans W.gtrans ((hm.mono X).then_heap (Pp _ _) λb o K e=>?_) x);rw[O.2 b (λh:b=S=>K (by rw[h];exact NF))];exact e
end
section
variable {prog:eb}{w:eK}{A:gg}{E:aC->b_->Prop}{s:b_}
theorem wz:SH (.type "tuple") (.type "set")=a_ false:=by rw[Qw];kernel_rfl
theorem uV:SH (.type "tuple") (.type "frozenset")=a_ false:=by rw[Qw];kernel_rfl
def d9(led:Bool):Obj:={cls:=.type "set",dict:=none,data:=.set #[] 0 (.fresh 0 0 led)}
def jr(w:eK):Bool:= !(w.params.followText "set-order")
def Src(h:f')(x:bc)(items:Array aC):Prop:=h.IsList x items\/h.IsTuple x items
theorem Src.at{h':f'}(r:Src h x items)(e:∀o,h.get? x=ar o->h'.get? x=ar o):Src h' x items:=by
 rcases r with⟨o,ho,r⟩|⟨o,ho,r⟩
 ·exact .inl ⟨o,e o ho,r⟩
 ·exact .inr ⟨o,e o ho,r⟩
theorem Src.lt(r:Src h x items):x<h.objs.size:=by rcases r with⟨o,ho,_⟩|⟨o,ho,_⟩<;>exact Nu ho
theorem Dl(r:Src s.heap x items)
  (h:∀(ob:Obj) (St:Nat->f'->Prop),(∀Y:gg,Y.handled=none->Walks prog w Y s.heap.objs.size [s.heap.objs.size,x] [s.heap.objs.size] items.size (λi v=>items[i]? =ar v) St)->St 0 (s.heap.push ob)->
   Q (.ref s.heap.objs.size) {s with heap:=s.heap.push ob}):ed (fb prog w) A (RY (.ref x)) Q E s:=by
 have Z:x≠s.heap.objs.size:=NB r.lt;rcases r with r|r
 ·refine Qp r (h _ _ (λY X=>Th X s.heap.objs.size x Z items) ⟨⟨_,Nw _ rfl,rfl,rfl⟩,r.push _⟩)
 ·refine OW r (h _ _ (λY X=>Walks.tuple X s.heap.objs.size x Z items) ⟨⟨_,Nw _ rfl,rfl,rfl⟩,?_⟩);obtain⟨o,W,q⟩:=r;exact⟨o,Nm _ W,q⟩
theorem Mx(a:aC){Q1:aC->b_->Prop}(h:Q1 (.ref s.heap.objs.size) {s with heap:=s.heap.push (d9 (jr w))}):
  t_ (fb prog w) A (.call (.builtin "set.__new__") ⟨[.type "set",a],[]⟩) (wants Q1 E) s:=by
 refine RA ?_;show ed _ A.in1 (do RN "set.__new__" ⟨[.type "set",a],[]⟩;RZ (.builtin "set.__new__" ⟨[.type "set",a],[]⟩)) _ _ s;refine Nk (RK (F.newCall_set_1 a) (Nr ⟨Ro F.plain_set_new _,PP F.entry_set_new ?_⟩));rw[Pe F.plain_set_new _];unfold Builtin.«set.__new__» Builtin.Frozenset.newClass;have Z:=sub_set_self;obtain⟨Y,g,d,X,os⟩:=s;dsimp only
 wp_walk
 refine Pq (Nr ?_);dsimp only;simp only[newObj];exact Nk (wpAny_alloc (Nr (Nr h)))
theorem Dm(r:Src s.heap x items):∃T,s.TypeIs (.ref x) T/\SH (.type T) (.type "set")=a_ dt/\SH (.type T) (.type "frozenset")=a_ dt/\(y3 T==y3 "dict")=false:=by
 rcases r with⟨o,ho,hc,_⟩|⟨o,ho,hc,_⟩
 ·exact⟨"list",⟨o,ho,hc⟩,F.sub_list_set,F.sub_list_frozenset,by decide⟩
 ·exact⟨"tuple",⟨o,ho,hc⟩,wz,uV,by decide⟩
set_option maxHeartbeats 8000000 in
theorem Iv(hh:A.handled=none)(hu:A.in1.in1.in1.units<u3)(r:Src s.heap x items)(X:Nat->KA)(T:∀(i:Nat) (v:aC),items[i]? =ar v->v= .ref (X i).2)(hn:items.size<=18)
  (y:∀j,j<items.size->l_ (o_ prog w) s.heap (X j).1 (X j).2)
  (h:∀(h':f') (tk:Nat) o es ep t L,SetAt prog w h' s.heap.objs.size o es ep t L->Folded ((d_ items.size).map X) L->(∀b o,b<s.heap.objs.size->s.heap.get? b=ar o->h'.get? b=ar o)->
   Q (.ref s.heap.objs.size) {s with heap:=h',toks:=tk}):ed (fb prog w) A (call (.type "set") [.ref x]) Q E s:=by
 obtain⟨c,tl,n⟩:=F.called_set.mro;have O:=F.called_set.made;have m:=F.called_set.sub;refine Q8 (RA ?_);show ed _ _ (callAny (.type "set") _) _ _ _;refine Nr ⟨Code.quiet_builtin _ (by decide+kernel),PP F.entry_type_call ?_⟩;rw[Around.under_plain (weight_type_call_type "set" [.ref x] []) rfl];have h1:=F.called_set.notType;have h2:=F.called_set.canCreate;have a:=F.typeCall_set_1 (.ref x)
 repeat (any_goals (first|assumption|wp_step))
 refine PK (Mx (.ref x) (E:=E) (Q1:=λobj s1=>obj= .ref s.heap.objs.size/\s1={s with heap:=s.heap.push (d9 (jr w))}) ⟨rfl,rfl⟩) λf s1 N=>?_;cases f with
 |error e=>exact N
 | ok fl=>
  cases fl with
  | ret obj=>
   obtain⟨rfl,rfl⟩:=N;have q:(s.heap.push (d9 (jr w))).get? s.heap.objs.size=ar (d9 (jr w)):=Nw _ rfl;have u:Sk {s with heap:=s.heap.push (d9 (jr w))} (.ref s.heap.objs.size) "set":=⟨_,q,rfl⟩;have a0:=F.called_set.init.lookup;have a5:=F.called_set.init.bind (.ref s.heap.objs.size)
   repeat (any_goals (first|assumption|wp_step))
   refine PK (codeAny_call_builtin (R:=wants (λr s2=>r= .none/\Q (.ref s.heap.objs.size) s2) E) F.called_set.init.plain F.entry_set_init (check_set_init_1 u ?_)) λr2 s2 Y=>?_
   ·have p:Src (s.heap.push (d9 (jr w))) x items:=r.at λo e=>Nm _ e;obtain⟨Tx,b2,g,a6,hd⟩:=Dm (s:={s with heap:=s.heap.push (d9 (jr w))}) p;unfold Builtin.«set.__init__» noKeywords Builtin.Frozenset.updateFrom;generalize hPI:RY=PI;have k:=u;unfold d9 at q
    wp_walk
    subst hPI;refine Dl (s:={s with heap:=s.heap.push (d9 (jr w))}) p λz St W J=>?_;refine Nk (wpAny_runValue ?_);have G:x<s.heap.objs.size:=r.lt;have Z:(s.heap.push (d9 (jr w))).objs.size=s.heap.objs.size+1:=OB _ _;have P:s.heap.objs.size∉[(s.heap.push (d9 (jr w))).objs.size,x]:=by rw[Z];simp only[gc,fc,or_false,not_or];exact⟨NB (Po _),O2 G⟩
    have H:A.in1.in1.in1.handled=none:=by simp[hh]
    have up:∀b o,s.heap.get? b=ar o->((s.heap.push (d9 (jr w))).push z).get? b=ar o:=λb o e=>Nm _ (Nm _ e);have S:∀j,j<items.size->(X j).2<s.heap.objs.size:=λj U=>let ⟨_,_,_,e,_⟩:=y j U;Nu e;have S0:SetAt prog w ((s.heap.push (d9 (jr w))).push z) s.heap.objs.size (d9 (jr w)) #[] 0 (.fresh 0 0 (jr w)) []:=
     ⟨Nm _ (Nw _ rfl),⟨rfl,rfl,rfl⟩,rfl,Df _,rfl,rfl,rfl,.nil⟩
    refine FG ((W _ H).toS) P X T hn hu (λj U=>?_) (items.size - 0) 0 _ rfl (NN _) J (λj U=>yA (y j U) λo e=>up _ o e) _ _ _ _ _ S0 .nil λs' hm o es ep t L K d=>?_
    ·rw[Z];have:=S j U;simp only[gc,fc,or_false,not_or];exact⟨NB this,NB (OC this)⟩
    ·obtain⟨h',g',d',C,I⟩:=s';have eg:g'=s.gens:=hm.gens;have l:d'=s.drawn:=hm.drawn;have eo:I=s.os:=hm.os;subst eg l eo;show ed _ _ _ _ _ _;refine Nr ?_;show ed _ _ (ret h_) _ _ _;refine Nr ⟨rfl,h h' C o es ep t L K d λb o B e=>?_⟩;refine hm.heap b o ?_ (up b o e);rw[Z];simp only[gc,fc,or_false,not_or];exact⟨NB B,NB (OC B)⟩
   ·cases r2 with
    |error e=>exact Y
    | ok fl2=>
     cases fl2 with
     |ret rv=>
      obtain⟨rfl,hq⟩:=Y
      repeat (any_goals (first|assumption|wp_step))
     |_=>exact Y.elim
  |_=>exact N.elim
end
theorem rC{α:Type}:∀{l:List α} {i:Nat} {x:α},l[i]? =ar x->l.Perm (x::l.eraseIdx i)
 |[],_,_,h=>by simp at h
 |y::l,0,x,h=>by simp at h;subst h;exact .refl _
 |y::l,i+1,x,h=>by
  have:=rC (l:=l) (i:=i) (x:=x) (by simpa using h);rw[List.eraseIdx_cons_succ];exact(K' y this).trans (.swap _ _ _)
theorem z7{α:Type}(Z:Nat->Nat):∀(fuel k:Nat) (left:List α) (out:Array α),left.length=fuel->(Sx Z fuel k left out).toList.Perm (out.toList++left)
 |0,k,left,out,h=>by
  have:left=[]:=List.length_eq_zero_iff.mp h;subst this;unfold Sx;simp
 |fuel+1,k,left,out,h=>by
  unfold Sx;have Y:Z k % left.length<left.length:=Rg _ (by omega)
  have X:left[Z k % left.length]? =ar left[Z k % left.length]:=Np Y;rw[X];simp only;refine(z7 Z fuel (k+1) _ _ (by rw[QV Y];omega)).trans ?_;rw[Array.toList_push,ND];exact List.Perm.append_left _ (rC X).symm
theorem Bp{α:Type}(Z:Nat->Nat)(xs:Array α):(SJ Z xs).toList.Perm xs.toList:=by
 have:=z7 Z xs.size 0 xs.toList #[] (by simp)
 simpa [SJ]using this
def kH(w:eK)(a:bc)(ep:Nat)(es:Array Ent):Array Ent:=if w.params.followText "set-order"=cn then SJ (w.params.setOrder a ep) es else es
theorem tX(w:eK)(a:bc)(ep:Nat)(es:Array Ent):(kH w a ep es).toList.Perm es.toList:=by
 unfold kH;split
 ·exact Bp _ _
 ·exact .refl _
theorem lU(w:eK)(a:bc)(ep:Nat)(es:Array Ent):(kH w a ep es).size=es.size:=by have:=(tX w a ep es).length_eq;simpa using this
theorem eY:Slot "set_iterator" "__next__" "set_iterator.__next__":=
 .of (owner:="set_iterator") (n:="__next__") (by rw[RB,QB];kernel_rfl) (by decide+kernel) (by decide+kernel) (by decide+kernel)
  (by first|exact .inl (by decide+kernel)|exact .inr (by decide+kernel)) (by rw[Qw];kernel_rfl)
theorem mC:TY table "set_iterator.__next__"=ar Builtin.«set_iterator.__next__»:=entryFor_of_fast (by kernel_rfl)
theorem nQ(a:aC):T8 "set_iterator.__next__" ⟨[a],[]⟩:=by unfold T8;kernel_rfl
theorem rD:TY table "set.__iter__"=ar Builtin.«frozenset.__iter__»:=
 entryFor_alias (id':="frozenset.__iter__") (by kernel_rfl) rfl (by decide+kernel) (by kernel_rfl)
section
variable {prog:eb}{w:eK}{A:gg}{E:aC->b_->Prop}{s:b_}
def il(w:eK)(t:nC)(i:Nat):Nat:=if w.params.followText "set-order"=cn then 0 else match i with
 |0=>0
 |i+1=>t.place.getD i 0+1
structure IterAt(w:eK)(h:f')(I a:bc)(t:nC)(sz ep i:Nat):Prop where
 ex:∃o,h.get? I=ar o/\o.cls= .type "set_iterator"/\o.data= .fields #[.int (il w t i) 0,.int i 0,.ref a,.int sz 0,.int ep 0]
theorem IterAt.typeIs(k:IterAt w s.heap I a t sz ep i):s.TypeIs (.ref I) "set_iterator":=
 let ⟨o,ho,hc,_⟩:=k.ex
 ⟨o,ho,hc⟩
theorem z8(k:SetAt prog w s.heap a o es ep t L)(G:i<=es.size){Q:Option (aC×Nat)->b_->Prop}
  (h:Q (((kH w a ep es)[i]?).map λe=>(e.2,il w t (i+1))) s):ed (fb prog w) A (setNext a (il w t i) i ep) Q E s:=by
 unfold setNext;refine Nk (OQ k.get k.dat k.fits ?_);simp only;unfold To;refine Nk (Nk (Pq (Nr ?_)));show ed _ _ (if (w.params.followText "set-order")=cn then _ else _) _ _ s;by_cases hw:w.params.followText "set-order"=cn
 ·rw[if_pos hw];simp only[bne_self_eq_false,e_,if_false];unfold setWalk;refine Nk (Nk (OQ k.get k.dat k.fits ?_));simp only;unfold To;refine Nk (Nk (Pq (Nr ?_)));show ed _ _ (if (w.params.followText "set-order")=cn then _ else _) _ _ s;rw[if_pos hw];refine Nk (Pq (Nr ?_));refine Nr ?_;have e1:kH w a ep es=SJ (w.params.setOrder a ep) es:=by unfold kH;rw[if_pos hw]
  have e2:∀j,il w t j=0:=λj=>by unfold il;rw[if_pos hw]
  rw[e1,e2]at h;rw[e2];exact h
 ·rw [if_neg hw];have P:(!t.plain && decide (es.size>1))=false:=by rw[k.pln];rfl
  have I:t.led=true:=by rw[k.led];simpa using hw
  have e1:kH w a ep es=es:=by unfold kH;rw[if_neg hw]
  have e2:∀j,il w t j=match j with|0=>0|j+1=>t.place.getD j 0+1:=λj=>by unfold il;rw[if_neg hw]
  have J:R3 t.place (il w t i)=i:=by
   obtain⟨T,Y,X⟩:=rm k.ok.ris (il w t i);cases i with
   | zero=>
    rw[e2]at T Y X⊢;simp only at T Y X⊢;rcases Nat.eq_zero_or_pos (R3 t.place 0)with z|z
    ·exact z
    ·have Z:0<t.place.size:=by omega
     have:=Y 0 _ z (Nz Z);omega
   | succ i=>
    have W:i<t.place.size:=by rw[k.ok.siz];omega
    have S:t.place.getD i 0=t.place[i]:=by simp[Tn,W]
    rw[e2]at T Y X⊢;simp only[S]at T Y X⊢;have N:=Nz W;rcases Rh (R3 t.place (t.place[i]+1)) (i+1)with l|l|l
    ·have:=X i _ (by omega) N;omega
    ·exact l
    ·have Z:i+1<t.place.size:=by omega
     have H:=Y (i+1) _ l (Nz Z);have F:=k.ok.ris i (i+1) _ _ (by omega) N (Nz Z);omega
  generalize hu:PySem.unsupported=U;show ed _ _ (if (!t.plain && decide (es.size>1))=cn then _ else _) _ _ s;rw[P];simp only[e_,if_false];have hm:∀R:Unit->b_->Prop,R () s->ed (fb prog w) A (if (!t.led && !es.isEmpty)=cn then unsupported "set:maker-not-led" else a_ ()) R E s:=λR K=>by rw[I];simp only[y1,Bool.false_and,e_,if_false];exact Nr K
  refine Nk (hm _ ?_);refine Nr ?_;rw[J];rw[e1,e2]at h;simp only at h;by_cases Z:i<es.size
  ·have O:i<t.place.size:=by rw[k.ok.siz];exact Z
   have S:t.place.getD i 0=t.place[i]:=by simp[Tn,O]
   rw[Nz Z,S]at h;rw[Nz Z,Nz O];exact h
  ·rw[ON (by omega)]at h;rw[ON (by omega)];exact h
end
theorem Dn{α β:Type}{f:α->β}{l Y:List β}(h:l.Perm Y):∀L:List α,Y=L.map f->∃Z:List α,Z.Perm L/\l=Z.map f:=by
 induction h with
 |nil=>intro L e;exact⟨[],by rw[List.map_eq_nil_iff.mp e.symm],rfl⟩
 | cons x _ ih=>
  intro L e;cases L with
  |nil=>cases e
  |cons y L=>
   rw[NH]at e;injection e with e1 e2;obtain⟨Z,p,q⟩:=ih L e2;exact⟨y::Z,p.cons y,by rw[q,e1];rfl⟩
 | swap x y l=>
  intro L e
  match L,e with
  |[],e=>cases e
  |[_],e=>rw[NH]at e;injection e with _ e;cases e
  |a::b::L,e=>
   rw[NH,NH]at e;injection e with e1 e2;injection e2 with e2 e3;exact⟨b::a::L,.swap _ _ _,by rw[e1,e2,e3];rfl⟩
 |trans _ _ ih1 ih2=>
  intro L e;obtain⟨L1,U,W⟩:=ih2 L e;obtain⟨S,X,T⟩:=ih1 L1 W;exact⟨S,X.trans U,T⟩
section
variable {prog:eb}{w:eK}{A:gg}{E:aC->b_->Prop}{s:b_}
theorem tY{h:f'}{g:Array aC->Array aC}(Y:h.get? I=ar o)(Z:o.data= .fields fs):
  ∃o',(h.update I (C_ g)).get? I=ar o'/\o'.cls=o.cls/\o'.data= .fields (g fs):=
 ⟨_,Ox _ Y (PQ (OY Z _)),Rl ..,OY Z _⟩
theorem next_item{Q:Option aC->b_->Prop}(k:SetAt prog w s.heap a o es ep t L)(Z:IterAt w s.heap I a t es.size ep i)(P:I≠a)
  (T:(kH w a ep es)[i]? =ar e) (N:∀h',IterAt w h' I a t es.size ep (i+1)->s_ I s.heap h'->Q (ar e.2) {s with heap:=h'}):ed (fb prog w) A (A' (.ref I)) Q E s:=by
 obtain⟨J,X,R,hd⟩:=Z.ex;have Y:i<es.size:=by rw[<-lU w a ep es];exact(NQ.mp T).1
 unfold A';refine Nk (PR (wpAny_callSpecial?_slot (name:=i_ "__next__") Z.typeIs eY
  (Os eY Z.typeIs mC ?_ (nQ _))))
 unfold Builtin.«set_iterator.__next__»;refine Nk (m:=TZ "__next__" 0 _) (Nr ?_);refine Nk (wpAny_fieldsOf X hd ?_);simp only;refine Nk (QP k.get k.dat k.fits ?_);rw[if_neg (by simp)];refine Nk ?_;rw[N5,N5,N5];refine z8 k (O1 Y) ?_;rw[T];simp only[E_];refine Nk (Py X hd (by simp) ?_);obtain⟨K,g1,c1,U⟩:=tY (g:=λW=>W.set! 0 (n0 (il w t (i+1):Nat))) X hd;refine Nk (Py (o:=K) (s:={s with heap:=_}) g1 U (by simp) (Nr ⟨e.2,rfl,Nr (N _ ?_ ((OR ..).trans (OR ..)))⟩));obtain⟨o2,g2,O,S⟩:=tY (g:=λW=>W.set! 1 (n0 ((i:Int)+1))) g1 U;refine⟨o2,g2,by rw[O,c1];exact R,?_⟩;rw[S];simp[n0]
theorem next_end{Q:Option aC->b_->Prop}(X:A.handled=none)(k:SetAt prog w s.heap a o es ep t L)(Z:IterAt w s.heap I a t es.size ep es.size)
  (W:∀h',SR I s.heap h'->Q none {s with heap:=h'}):ed (fb prog w) A (A' (.ref I)) Q E s:=by
 obtain⟨U,Y,S,hd⟩:=Z.ex;unfold A';refine Nk (PR (wpAny_callSpecial?_slot (name:=i_ "__next__") Z.typeIs eY
  (Os eY Z.typeIs mC ?_ (nQ _))))
 unfold Builtin.«set_iterator.__next__»;refine Nk (m:=TZ "__next__" 0 _) (Nr ?_);refine Nk (wpAny_fieldsOf Y hd ?_);simp only;refine Nk (QP k.get k.dat k.fits ?_);rw[if_neg (by simp)];refine Nk ?_;rw[N5,N5,N5];refine z8 k (Nq _) ?_;rw[ON (by rw[lU];exact Nq _)];simp only[Option.map_none];refine Nk (Py Y hd (by simp) ?_);show ed _ _ (T9 (.type "StopIteration") []>>=_) _ _ _;refine Nk ?_;simp only[T9,newTuple];refine Nk (Od ?_ (by size_fits));refine Nk (m:=L_ _ _) (RK (a:=h_) (by first|rfl|(simp only[L_];rfl)) ?_);refine Od ?_ (by size_fits);simp only[raiseNew];refine Nk (wpAny_handled ?_);first|rw[show A.in1.handled=none from X]|rw[X]
 refine Nk (Nr (wpAny_throw ?_));refine Nk (Pr (T:="StopIteration") (b:=cn) ⟨_,Nw _ rfl,rfl⟩ Qx ?_);exact Nr (W _ (((OR ..).extBut.push _).push _))
theorem IterAt.at{h':f'}(k:IterAt w h I a t sz ep i)(e:∀o,h.get? I=ar o->h'.get? I=ar o):IterAt w h' I a t sz ep i:=
 let ⟨o,ho,r⟩:=k.ex
 ⟨⟨o,e o ho,r⟩⟩
theorem nR:Slot "set_iterator" "__iter__" "set_iterator.__iter__":=
 .of (owner:="set_iterator") (n:="__iter__") (by rw[RB,QB];kernel_rfl) (by decide+kernel) (by decide+kernel) (by decide+kernel)
  (by first|exact .inl (by decide+kernel)|exact .inr (by decide+kernel)) (by rw[Qw];kernel_rfl)
theorem sU:TY table "set_iterator.__iter__"=ar Builtin.«dict_keyiterator.__iter__»:=
 entryFor_alias (id':="dict_keyiterator.__iter__") (by kernel_rfl) rfl (by decide+kernel) (by kernel_rfl)
theorem uW(a:aC):T8 "set_iterator.__iter__" ⟨[a],[]⟩:=by unfold T8;kernel_rfl
theorem Do{Q:aC->b_->Prop}(k:SetAt prog w s.heap a o es ep t L)
  (S:∀ob,IterAt w (s.heap.push ob) s.heap.objs.size a t es.size ep 0->Q (.ref s.heap.objs.size) {s with heap:=s.heap.push ob}):ed (fb prog w) A (RY (.ref a)) Q E s:=by
 have U:s.TypeIs (.ref a) "set":=⟨o,k.get,k.ex.1⟩;refine wpAny_pyIter_slot U F.slot_set_iter (Os F.slot_set_iter U rD ?_ (F.args_set_iter_1 _));unfold Builtin.«frozenset.__iter__» Builtin.Frozenset.slot0;refine Nk (Nk (m:=TZ "__iter__" 0 _) (Nr ?_));refine Nr ?_;unfold Builtin.Frozenset.sizeOf;refine Nk (Nk (QP k.get k.dat k.fits (Nr ?_)));unfold setDrawn;refine Nk (Nk (OQ k.get k.dat k.fits ?_));simp only;unfold To;refine Nk (Nk (Pq (Nr ?_)));refine Nr ?_;have W:(!(w.params.followText "set-order") && (!t.plain && decide (es.size>1)))=false:=by rw[k.pln];simp
 have Z:∀(X Y:Sem Fin) (R:Fin->b_->Prop),ed (fb prog w) A.in1 Y R E s->ed (fb prog w) A.in1 (if (!(w.params.followText "set-order") && (!t.plain && decide (es.size>1)))=cn then X else Y) R E s:=λX Y R T=>by rw[W];simp only[e_,if_false];exact T
 refine Z _ _ _ ?_;refine Nk (Nr ?_);refine Nk (wpAny_setEpoch_of k.get k.dat k.fits ?_);refine Nk (Od (Nr ⟨_,rfl,"set_iterator",_,⟨_,Nw _ rfl,rfl⟩,eY.lookup,S _ ⟨⟨_,Nw _ rfl,rfl,?_⟩⟩⟩));have P:il w t 0=0:=by unfold il;split<;>rfl
 rw[P];rfl
theorem Bq{es:Array Ent}(N:A.handled=none)(X:I≠a):Walks prog w A I [I,a] [I] es.size (λi v=>∃e,(kH w a ep es)[i]? =ar e/\v=e.2)
  (λi h=>SetAt prog w h a o es ep t L/\IterAt w h I a t es.size ep i) where
 sub:=λb Y=>by simp at Y;simp[Y]
 frame:=λi h h' st P=>⟨st.1.at λZ e=>P a (by simp) Z e,st.2.at λZ e=>P I (by simp) Z e⟩
 item:=λi s Q E O st U=>by
  have S:i<(kH w a ep es).size:=by rw[lU];exact O
  have he:=Nz S;exact next_item st.1 st.2 X he λh' T W=>U _ h' s.toks ⟨_,he,rfl⟩ ⟨st.1.at λZ e=>W.extBut a Z (k_ X) e,T⟩ λb Z Y e=>W.extBut b Z (λz=>Y (by simp[z])) e
 done:=λs Q E st U=>next_end N st.1 st.2 λh' R=>U h' s.toks λb Z Y e=>R b Z (λz=>Y (by simp[z])) e
 self:=λi s Q E st U=>by refine wpAny_pyIter_slot st.2.typeIs nR (Os nR st.2.typeIs sU ?_ (uW _));show ed _ _ (ret (.ref I)) _ _ s;exact Nr ⟨_,rfl,"set_iterator",_,st.2.typeIs,eY.lookup,U⟩
theorem wA{Q:List aC->b_->Prop}(j:A.handled=none)(k:SetAt prog w s.heap a o es ep t L)(q:es.size<=18)
  (m:∀(h':f') (tk:Nat) (P:List KA),P.Perm L->(∀b o,s.heap.get? b=ar o->h'.get? b=ar o)->Q (P.map λp=>ee p.2) {s with heap:=h',toks:=tk}):
  ed (fb prog w) A (Ug (.ref a)) Q E s:=by
 have Y:a<s.heap.objs.size:=Nu k.get;unfold Ug;refine Nk (wpAny_runValue (PP F.entry_proto_collect ?_));rw[Pe F.plain_proto_collect _];show ed _ A.in1 (Ue []>>=λl=>RZ (.builtin "list.__iadd__" ⟨[l,.ref a],[]⟩)) _ _ s;refine Nk (Od ?_);refine Nr ⟨Ro F.plain_list_iadd _,PP F.entry_list_iadd ?_⟩;rw[Pe F.plain_list_iadd _];have k1:SetAt prog w (s.heap.push {cls:=.type "list",data:=.seq ([]:List aC).toArray}) a o es ep t L:=k.at λZ e=>Nm _ e;have G:(s.heap.push {cls:=.type "list",data:=.seq ([]:List aC).toArray}).get? s.heap.objs.size=ar {cls:=.type "list",data:=.seq ([]:List aC).toArray}:=Nw _ rfl;have f:Sk {s with heap:=s.heap.push {cls:=.type "list",data:=.seq ([]:List aC).toArray}} (.ref a) "set":=⟨o,k1.get,k1.ex.1⟩;have U:Builtin.List.listSameRef (.ref s.heap.objs.size) (.ref a)=false:=by simp[Builtin.List.listSameRef,Nat.ne_of_gt Y]
 show ed _ A.in1 (Builtin.List.listExtendWith (.ref s.heap.objs.size) (.ref a) (.ref s.heap.objs.size)) _ _ _;unfold Builtin.List.listExtendWith;refine Nk (Qy f ?_);rw[if_neg (by rw[U];decide)];refine Nk (Do (s:={s with heap:=s.heap.push {cls:=.type "list",data:=.seq ([]:List aC).toArray}}) k1 λN hit=>?_);refine Nk (Oi ?_);have S:Sk {s with heap:=(s.heap.push {cls:=.type "list",data:=.seq ([]:List aC).toArray}).push N} (.ref a) "set":=⟨o,Nm _ k1.get,k1.ex.1⟩;unfold Builtin.List.listLengthHint;refine Nk (wpAny_specialOf S F.slot_set_len.lookup ?_);generalize cX:("set.__len__":String)=id0
 wp_delta
 rw[show splitId id0=ar ("set","__len__")from by subst cX;decide+kernel];subst cX;refine Nk (Pr (b:=cn) S sub_set_self ?_);rw[if_neg (by decide)];rw[if_pos (by decide+kernel)];refine Nk (Qy S ?_);refine Nr ?_;rw[if_pos (by decide+kernel)];refine Nk (P6 ?_);generalize hg:(s.heap.push {cls:=.type "list",data:=.seq ([]:List aC).toArray}).objs.size=I at hit;have C:I=s.heap.objs.size+1:=by rw[<-hg];exact OB _ _
 have y:I≠a:=by rw[C];exact O2 (OC Y)
 have R:I≠s.heap.objs.size:=by rw[C];exact Rx _
 have h:s.heap.objs.size∉[I,a]:=by simp only[gc,fc,or_false,not_or];exact⟨k_ R,O2 Y⟩
 have O:((s.heap.push {cls:=.type "list",data:=.seq ([]:List aC).toArray}).push N).get? s.heap.objs.size=ar {cls:=.type "list",data:=.seq ([]:List aC).toArray}:=Nm _ G;refine Nk ?_;show ed _ A.in1 (updateSeq s.heap.objs.size (·.push .none)>>=λ_=>updateSeq s.heap.objs.size (·.pop)) _ _ _;refine Nk (wpAny_updateSeq O rfl ?_);have K:=Ox (n_ (·.push h_)) O rfl;refine wpAny_updateSeq K rfl ?_;have J:=Ox (n_ (·.pop)) K rfl;have T:∀b Z,b≠s.heap.objs.size->((s.heap.push {cls:=.type "list",data:=.seq ([]:List aC).toArray}).push N).get? b=ar Z->
   ((((s.heap.push {cls:=.type "list",data:=.seq ([]:List aC).toArray}).push N).update s.heap.objs.size (n_ (·.push h_))).update s.heap.objs.size (n_ (·.pop))).get? b=ar Z:=
  λb Z v e=>(N9 _ _ (k_ v)).trans ((N9 _ _ (k_ v)).trans e)
 have k2:=(k1.at (h':=(s.heap.push {cls:=.type "list",data:=.seq ([]:List aC).toArray}).push N) λZ e=>Nm _ e);have z:A.in1.handled=none:=by simp[j]
 have W:=Bq (prog:=prog) (w:=w) (A:=A.in1) (I:=I) (a:=a) (o:=o) (es:=es) (ep:=ep) (t:=t) (L:=L) z y;refine Nr ⟨Ro F.plain_extend_loop _,?_⟩;refine codeAny_extend_loopS W.toS (by rw[OI];omega) _ h _ es.size 0 _ _ _ rfl (NN _) ⟨k2.at λZ e=>T a Z (NB Y) e,hit.at λZ e=>T I Z R e⟩ J (ItemsOf.nil _) λs' acc c hm H X=>?_;show ed _ A (load s.heap.objs.size>>=_) _ _ s';refine Nk (wpAny_load H ?_);refine Nr ?_;obtain⟨h',g',d',x,B⟩:=s';have d:g'=s.gens:=hm.gens;have r:d'=s.drawn:=hm.drawn;have n:B=s.os:=hm.os;subst d r n;obtain⟨P,g,u⟩:=Dn (tX w a ep es) L k.ents;have he:acc.toList=P.map λp=>ee p.2:=by
  have e1:acc.toList=(kH w a ep es).toList.map (·.2):=by
   refine Qu λi=>?_;rw[NW,NM,NW];by_cases hi:i<acc.size
   ·obtain⟨e,e1,e2⟩:=X.2 i _ (Nz hi);rw[Nz hi,e2,e1];rfl
   ·rw[ON (by omega),ON (by rw[lU, <-X.1];omega)];rfl
  rw[e1,u,NK];rfl
 rw[he];refine m h' x P g λb Z e=>hm.heap b Z ?_ (T b Z (NB (Nu e)) (Nm _ (Nm _ e)));simp only[gc,fc,or_false,not_or];exact⟨NB (Nu e),by rw[C];exact NB (OC (Nu e))⟩
end
end S4
namespace S4
open PySem PySem.Spec PySem.W PyProof.Rows L2 S3
section
variable {prog:eb}{w:eK}{A:gg}{E:aC->b_->Prop}{s:b_}
theorem yB{vs:List aC}{P:PySem.Fin->b_->Prop}(W:s.heap.get? a=ar (w_ "list" vs.toArray n))(O:vs.length<2)
  (h:∀h' c,h'.get? a=ar (w_ "list" vs.toArray c)->(∀b o,b≠a->s.heap.get? b=ar o->h'.get? b=ar o)->P (.done (.ret .none)) {s with heap:=h'}):
  ed (fb prog w) A (Builtin.«list.sort» ⟨[.ref a],[]⟩) P E s:=by
 have Q:a<s.heap.objs.size:=Nu W;obtain⟨e1,X⟩:∃e1,(s.heap.update a (n_ λ_=>(#[]:Array aC))).get? a=ar (w_ "list" #[] e1):=⟨_,get?_update_seq W λ_=> #[]⟩;have Z:(((s.heap.update a (n_ λ_=>(#[]:Array aC))).push (w_ "tuple" vs.toArray 0)).push (w_ "list" #[] 0)).get? a=ar (w_ "list" #[] e1):=Nm _ (Nm _ X);rw[list_sort_plain];refine Nk (listItems_at W rfl ?_);refine Nk (listUpdate_at W rfl ?_ (by rw[NA,OI];omega) (NN _));refine Nk (seqEpoch_at X rfl ?_);refine Nk (wpAny_newTuple ?_ (by show vs.length<=_;rw[OI];omega));refine Nk (wpAny_newList ?_ (NN _));refine Oi ?_;show ed (fb prog w) A _ P E {s with heap:=((s.heap.update a (n_ λ_=>(#[]:Array aC))).push (w_ "tuple" vs.toArray 0)).push (w_ "list" #[] 0)};dsimp only;have Y:vs.toArray.size<2:=by rw[NA];omega
 rw[if_pos Y,if_pos Y];refine Nk (Nr ?_);rw[StateT.run_pure];refine Nk (Nr ?_);dsimp only;refine Nk (seqEpoch_at Z rfl ?_);have R:(arrOf (SortSt.mk' general' (vs.toArray.zip vs.toArray) #[] 7 none)).map (·.2)=vs.toArray:=by show(vs.toArray.zip vs.toArray).map (·.2)=vs.toArray;rw[Array.map_snd_zip (Nq _)]
 rw[R];refine Nk (listUpdate_at Z rfl ?_ (NN _) (by rw[NA,OI];omega));obtain⟨T,U⟩:∃T,((((s.heap.update a (n_ λ_=>(#[]:Array aC))).push (w_ "tuple" vs.toArray 0)).push (w_ "list" #[] 0)).update a (n_ λ_=>vs.toArray)).get? a=ar (w_ "list" vs.toArray T):=⟨_,get?_update_seq Z λ_=>vs.toArray⟩;simp only[bne_self_eq_false,e_,if_false];refine Nr (h _ T U λb o S e=>?_);rw[QQ _ _ _ _ S];refine Nm _ (Nm _ ?_);rw[QQ _ _ _ _ S];exact e
end
section
variable {X:Cx}
structure TRow(H:Hp)(vs:List V)(nss:List (List Int)):Prop where
 len:vs.length=nss.length
 at':∀i,i<vs.length->∃a,vs[i]? =ar (.ref a)/\H a=ar (.tup ((nss.getD i []).map V.int))
 ne:∀i,i<vs.length->0<(nss.getD i []).length
def i7(nss:List (List Int))(q:List Nat):Prop:=q.Perm (d_ nss.length)/\∀i j,i<=j->j<nss.length->HT.lexLt (nss.getD (q.getD j 0) []) (nss.getD (q.getD i 0) [])=dt
theorem kI{H:Hp}{Q:VK}(I:L2.Inv X pins σ H s)(Pv:List aC->Prop)
  (hc:∀(R:List aC->b_->Prop) (E':aC->b_->Prop),(∀vs Y K,Pv vs->(∀b o,s.heap.get? b=ar o->Y.get? b=ar o)->R vs {s with heap:=Y,toks:=K})->ed (fb X.prog X.w) X.A.in1 (Ug arg) R E' s)
  (G:∀us,Pv us->∃(vs:List V) (Z:List (List Int)),bg vs us/\TRow H vs Z/\vs.length<64/\∀q,i7 Z q->∀l,H l=none->Q (.ref l) (upd H l (.lst (q.map λi=>vs.getD i .non)))):
  ed (fb X.prog X.w) X.A (call (.builtin "sorted") [arg]) (EP X pins σ Q) X.xe s:=by
 refine Calls.call_function_entry kind_sorted plain_sorted entry_sorted (args_sorted1 _) ?_;unfold Builtin.«sorted»;refine Nk (m:=checkCount "sorted" 1 1 _) (Nr ?_);refine Nk (hc _ _ λits Y K hP keep=>?_);obtain⟨vs,Z,rv,T0,e0,q⟩:=G its hP;have c0:=rv.length;have O:L2.Inv X pins σ H {s with heap:=Y,toks:=K}:=I.kept keep;obtain⟨m,F⟩:=O.fr;refine Nk (wpAny_newList ?_ (by rw[OI];omega));have N:(Y.push (w_ "list" its.toArray 0)).get? Y.objs.size=ar (w_ "list" its.toArray 0):=Nw _ rfl;have up:∀b o,Y.get? b=ar o->(Y.push (w_ "list" its.toArray 0)).get? b=ar o:=λb o e=>Nm _ e;have nd:Y.get? Y.objs.size=none:=OZ (Nq _);have hL:X.env.locals<Y.objs.size:=F.ns.lt;have hH:H Y.objs.size=none:=O.hok.fresh (Nq _);have at':∀i,i<its.length->∃a,its[i]? =ar (.ref a)/\its.getD i h_= .ref a/\H a=ar (.tup ((Z.getD i []).map V.int)):=λi U=>by obtain⟨a,e1,e2⟩:=T0.at' i (by omega);obtain⟨u,hu,ru⟩:=rv.get e1;cases (show u=ee a from ru);exact⟨a,hu,by rw[Ny,hu];rfl,e2⟩
 have c1:∀l:List Nat,(∀x∈l,x<its.length)->bg (l.map λi=>vs.getD i .non) (l.map λi=>its.getD i h_):=by
  intro l
  induction l with
  |nil=>intro _;exact .nil
  |cons x l ih=>
   intro hx;refine .cons ?_ (ih λy hy=>hx y (Nx _ hy));have E:x<vs.length:=by have:=hx x NF;omega
   obtain⟨u,hu,ru⟩:=rv.get (Np E);show L2.RelV (vs.getD x .non) (its.getD x h_);rw[Ny,Ny,hu,Np E];exact ru
 show ed _ _ _ _ _ {s with heap:=Y.push (w_ "list" its.toArray 0),toks:=K};refine Nk (Oi (Os slot_list_sort ⟨_,N,rfl⟩ entry_list_sort ?body (args_list_sort _)))
 case body=>
  by_cases J:its.length<2
  ·refine yB (s:={s with heap:=Y.push (w_ "list" its.toArray 0),toks:=K}) N J λh' c g1 g2=>?_;refine⟨_,rfl,Nr ⟨_,rfl,?_⟩⟩;have I2:L2.Inv X pins σ (upd H Y.objs.size (.lst vs)) {s with heap:=h',toks:=K}:=O.laid (λb o e=>g2 b o (NB (Nu e)) (up b o e)) (Nq _) ⟨by rw[OI];omega,its,c,rv,g1⟩;refine⟨.ref Y.objs.size,_,I2,rfl,?_⟩;have:=q (d_ Z.length) ⟨.refl _,λi j d hj=>?_⟩ _ hH
   ·have e:(d_ Z.length).map (λi=>vs.getD i .non)=vs:=by
     refine Qu λi=>?_;rw[NM, <-T0.len];by_cases U:i<vs.length
     ·rw[P4 U,Np U];simp[pz,U]
     ·rw[Oy (by simpa using U),Oy (by omega)];rfl
    rw[e]at this;exact this
   ·have:i=j:=by have:=T0.len;omega
    subst this;exact kd _
  ·have c4:=T0.ne;refine kat_list_sort (s:={s with heap:=Y.push (w_ "list" its.toArray 0),toks:=K}) (F.kept up) (News.grown (qF (g:=X.base) (h:=Y) (L:=X.env.locals)) up) N (O2 hL) (OZ (Nv F.above (O1 hL)))
    (λp hp=>NB (Nu (qF p hp).1)) (by omega) (by omega) λe1 h' F' N'=>?_
   have P:∀J:f',Fr X.base X.env.locals J m->News X.base X.env.locals J (nv X.base Y X.env.locals)->∀b o,b≠X.env.locals->Y.get? b=ar o->J.get? b=ar o:=λJ F2 N2 b o hb e=>by
    cases z:X.base.get? b with
    |some o'=>
     have:=O.bk b o' z;rw[show Y.get? b=ar o' from this]at e;cases e;exact F2.keep b _ z
    |none=>exact(N2 (b,o) (vT hb z e)).1
   have kp:=P h' F' λz S=>N' z (Nx _ S);have T:Tups Y its Z:=⟨by have:=T0.len;omega,λi U=>by obtain⟨a,_,e1,e2⟩:=at' i U;obtain⟨_,ws,r,o,ho,b1,n,hd⟩:=(show bB X.prog X.w H Y a (.tup ((Z.getD i []).map V.int))from O.hok a _ e2);refine⟨a,o,ws.toArray,n,e1,ho,b1,hd,by simpa using Ra r,?_⟩;rw[NA, <-r.length,Nl];exact c4 i (by omega)⟩
   have T':Tups h' its Z:=T.keep λi a o U ea ho=>by obtain⟨a',_,e1,e2⟩:=at' i U;rw[ea]at e1;cases e1;refine kp a o (λz=>?_) ho;rw[z,O.free]at e2;cases e2
   obtain⟨fs,k1,k2,k3⟩:=rh (h:=h') (vs:=its) λv G=>by
    obtain⟨i,U,ei⟩:=List.mem_iff_getElem.mp G;obtain⟨a,o,us,n,f1,f2,f3,f4,f5,f6⟩:=T'.get i U;have ev:v= .ref a:=by rw[Ny,Np U,ei]at f1;exact f1
    generalize Z.getD i []=ns at f5;cases hus:us.toList with
    |nil=>
     have:us.size=0:=by rw[<-Pl,hus];rfl
     omega
    |cons x r'=>
     rw[hus]at f5;cases f5 with
     |cons n' t' _=>exact⟨a,o,us,n,n',t',ev,f2,f3,f4,by rw[<-NW,hus];rfl⟩
   refine kat_kind k1 (by omega) (T:=.type "int") (λv G=>by obtain⟨i,t,rfl⟩:=k3 v G;exact Looks.of_pure rfl) rfl ?_;refine CL (n:=its.length) (R:=In its.length) (b:=λi j=>HT.lexLt (Z.getD i []) (Z.getD j [])) (λi j C U hj hC=>T'.ask U hj hC) (vY (by omega)) ?_;obtain⟨s1,s2⟩:=Fs (n:=its.length) (b:=λi j=>HT.lexLt (Z.getD i []) (Z.getD j [])) (by omega) (λi _=>kd _) (λi j k _ _ _=>yt) (λi j k _ _ _=>uS);generalize bo (λi j=>HT.lexLt (Z.getD i []) (Z.getD j [])) (x_ its.length)=pp at s1 s2;have W:pp.toList.Perm (d_ its.length):=by simpa using Array.Perm.toList s1
   refine KasFin.intro F' N' (.head λz S=>NB (Nu (qF z S).1)) λb2 c' f B=>?_;have b3:=P b2 f λz S=>B z (Nx _ S);obtain⟨g1,g2,g3⟩:=B _ NF;have b5:∀x∈pp.toList,x<its.length:=λx hx=>NR.mp (W.mem_iff.mp hx);have b6:(pp.toList.map λi=>vs.getD i .non).length<=sizeLine:=by rw[Nl,W.length_eq,NS,OI];omega
   have I2:=yu O F f b3 nd g1 (c1 pp.toList b5) b6;refine⟨_,rfl,Nr ⟨_,rfl,.ref Y.objs.size,_,I2,rfl,q pp.toList ⟨by rw[<-T0.len,c0];exact W,λi j d hj=>?_⟩ _ hH⟩⟩;have:=s2 i j d (by have:=T0.len;omega);rw[N8,N8]at this;rw[Ny (l:=pp.toList),Ny (l:=pp.toList),NW,NW];exact this
end
end S4
namespace S3
open PySem PySem.Spec PySem.W PyProof.Rows L2 S4
def tupI(ns:List Int):D:=.tup (ns.map D.int)
def rowsOf:List D->Option (List (List Int))
 |[]=>ar []
 | .tup ds::r=>match intsOf ds,rowsOf r with
  |some ns,ar nss=>ar (ns::nss)
  |_,_=>none
 |_=>none
theorem qj:∀{a b:List Int},HT.lexLt a b=dt->HT.lexLt b a=dt->a=b
 |[],[],_,_=>rfl
 |[],_::_,h,_=>by cases h
 |_::_,[],_,h=>by cases h
 | x::a,y::b,h1,h2=>by
  rw[HT.lexLt_cons]at h1 h2;by_cases e:x=y
  ·subst e;rw[if_pos rfl]at h1 h2;rw[qj h1 h2]
  ·rw[if_neg e]at h1;rw[if_neg (k_ e)]at h2;have:=of_decide_eq_false h1;have:=of_decide_eq_false h2;omega
abbrev E5(a b:List Int):Prop:=HT.lexLt b a=dt
def yC(x:List Int):List (List Int)->List (List Int)
 |[]=>[x]
 |y::r=>if HT.lexLt y x=cn then y::yC x r else x::y::r
def ef:List (List Int)->List (List Int)
 |[]=>[]
 |x::r=>yC x (ef r)
theorem oK(x:List Int):∀l,(yC x l).Perm (x::l)
 |[]=>.refl _
 |y::r=>by
  unfold yC;split
  ·exact((oK x r).cons y).trans (.swap _ _ _)
  ·exact .refl _
theorem cf:∀l,(ef l).Perm l
 |[]=>.refl _
 |x::r=>(oK x _).trans ((cf r).cons x)
theorem Br(Z:E5 a b)(Y:E5 b c):E5 a c:=by
 cases q:HT.lexLt c a with
 |false=>exact q
 |true=>
  rcases uS (b:=b) q with z|z
  ·rw[show HT.lexLt c b=dt from Y]at z;cases z
  ·rw[show HT.lexLt b a=dt from Z]at z;cases z
theorem nS(h:HT.lexLt a b=cn):HT.lexLt b a=false:=by
 cases q:HT.lexLt b a with
 |false=>rfl
 |true=>
  have:=yt h q;rw[kd]at this;cases this
theorem pF(x:List Int):∀{l:List (List Int)},l.Pairwise E5->(yC x l).Pairwise E5
 |[],_=>by simp[yC]
 | y::r,h=>by
  obtain⟨X,W⟩:=Of.mp h;unfold yC;split
  ·next c=>
   refine Of.mpr ⟨λz Z=>?_,pF x W⟩;rcases NJ.mp ((oK x r).mem_iff.mp Z)with rfl|Z
   ·exact nS c
   ·exact X z Z
  ·next c=>
   have Y:E5 x y:=Rj.mpr c;refine Of.mpr ⟨λz Z=>?_,h⟩;rcases NJ.mp Z with rfl|Z
   ·exact Y
   ·exact Br Y (X z Z)
theorem dF:∀l,(ef l).Pairwise E5
 |[]=>.nil
 |x::r=>pF x (dF r)
theorem lV{l:List (List Int)}(h:l.Perm l')(Y:l.Pairwise E5)(Z:l'.Pairwise E5):l=l':=
 List.Perm.eq_of_pairwise (le:=E5) (λa b _ _ x y=>qj y x) Y Z h
theorem rE(h:i7 nss q):q.map (λi=>nss.getD i [])=ef nss:=by
 have hlen:q.length=nss.length:=by simpa using h.1.length_eq
 have e:(d_ nss.length).map (λi=>nss.getD i [])=nss:=by
  refine Qu λi=>?_;rw[NM];by_cases Z:i<nss.length
  ·rw[P4 Z,Np Z];simp[pz,Z]
  ·rw[Oy (by simpa using Z),Oy (by omega)];rfl
 have W:(q.map (λi=>nss.getD i [])).Perm nss:=by have:=h.1.map (λi=>nss.getD i []);rw[e]at this;exact this
 refine lV (W.trans (cf nss).symm) ?_ (dF _);rw[Q4];intro i j Z X Y;rw[Nl]at Z X;rw[List.getElem_map,List.getElem_map];have:=h.2 i j (O1 Y) (by omega);rw[Ny (l:=q),Ny (l:=q),Np Z,Np X]at this;exact this
def gy:List (List Int)->List (List Int)
 |[]=>[]
 |x::r=>if x∈gy r then gy r else x::gy r
theorem jZ:∀{l:List (List Int)},y∈gy l↔y∈l
 |[]=>.rfl
 | x::r=>by
  unfold gy;split
  ·next h=>
   rw[jZ,NJ];refine⟨.inr,λz=>z.elim (λz=>?_) id⟩;rw[z];exact jZ.mp h
  ·rw[NJ,NJ,jZ]
theorem nU:∀l:List (List Int),(gy l).Nodup
 |[]=>.nil
 |x::r=>by
  unfold gy;split
  ·exact nU r
  ·next h=>exact Ol.mpr ⟨h,nU r⟩
def fj(l:List (List Int)):List (List Int):=ef (gy l)
theorem Dp(f:Folded kv L):ef (L.map (·.1))=fj (kv.map (·.1)):=by
 unfold fj;have Z:(L.map (·.1)).Perm (gy (kv.map (·.1))):=(PX f.nd (nU _)).mpr λa=>by rw[f.mem,jZ]
 exact lV ((cf _).trans (Z.trans (cf _).symm)) (dF _) (dF _)
theorem _root_.S4.Folded.perm{Z:List KA}(f:Folded kv L)(h:Z.Perm L):Folded kv Z:=
 ⟨(Pn (h.map (λp:KA=>p.1))).mpr f.nd,λk=>by rw[(h.map (λp:KA=>p.1)).mem_iff];exact f.mem k,λp Y=>f.sub p (h.mem_iff.mp Y),by rw[h.length_eq];exact f.len⟩
section
variable {K:c_}{ι:List bc}{H:Hp}
theorem rF:∀{ds:List D} {vs:List V} {nss:List (List Int)},RelDs K ι H ds vs->rowsOf ds=ar nss->vs.length=nss.length/\∀i,i<vs.length->∃a,vs[i]? =ar (.ref a)/\H a=ar (.tup ((nss.getD i []).map V.int))
 |[],vs,nss,h,e=>by
  cases e;rw[h.nil_inv];exact⟨rfl,λi Z=>absurd Z (Ry _)⟩
 | .tup ds::r,vs,nss,h,e=>by
  obtain⟨v,ws,rfl,X,T⟩:=h.cons_inv;unfold rowsOf at e;cases q:intsOf ds with
  |none=>rw[q]at e;cases e
  | some ns=>
   rw[q]at e;cases q2:rowsOf r with
   |none=>rw[q2]at e;cases e
   | some nss'=>
    rw[q2]at e;cases e;obtain⟨U,Y⟩:=rF T q2;obtain⟨a,us,rfl,g1,g2⟩:=X.tup_inv;refine⟨by simp[U],λi Z=>?_⟩;cases i with
    |zero=>
     refine⟨a,rfl,?_⟩;rw[i6 g2 q]at g1;simpa using g1
    |succ i=>
     obtain⟨S,e1,e2⟩:=Y i (by simpa using Z);exact⟨S,by simpa using e1,by simpa using e2⟩
 | .non::_,_,_,_,e=>by cases e
 | .bl _::_,_,_,_,e=>by cases e
 | .int _::_,_,_,_,e=>by cases e
 | .str _::_,_,_,_,e=>by cases e
 | .lst _::_,_,_,_,e=>by cases e
 | .ro _::_,_,_,_,e=>by cases e
 | .fz _::_,_,_,_,e=>by cases e
 | .emp::_,_,_,_,e=>by cases e
theorem tZ:∀ns:List Int,RelDs K ι H (ns.map D.int) (ns.map V.int)
 |[]=>.nil
 |n::r=>.cons (.int n) (tZ r)
theorem rG{vs:List V}{Z:List (List Int)}(h:∀i,i<vs.length->∃a,vs[i]? =ar (.ref a)/\H a=ar (.tup ((Z.getD i []).map V.int))):
  ∀q:List Nat,(∀i∈q,i<vs.length)->RelDs K ι H ((q.map λi=>Z.getD i []).map tupI) (q.map λi=>vs.getD i .non)
 |[],_=>.nil
 |i::q,hq=>by
  obtain⟨a,e1,e2⟩:=h i (hq i NF);refine .cons ?_ (rG h q λj Y=>hq j (Nx _ Y));show RelD K ι H (tupI (Z.getD i [])) (vs.getD i .non);have e3:vs.getD i .non= .ref a:=by rw[Ny,e1];rfl
  rw[e3];exact .tup e2 (tZ _)
end
section
variable {X:Cx}{E:XD}{e:Expr}{m:TM}{pos:Pos}
theorem sV:d7 X (.builtin "sorted") (λxs H Q=>∃(p:bc) (vs:List V) (Z:List (List Int)),xs=[.ref p]/\kS X.K H p vs/\TRow H vs Z/\vs.length<64/\
  ∀q,i7 Z q->∀l,H l=none->Q (.ref l) (upd H l (.lst (q.map λi=>vs.getD i .non)))):=by
 intro pins s σ H xs us Q I r h;obtain⟨p,vs,Z,rfl,O,T,W,q⟩:=h;obtain⟨u,rfl,P⟩:=vals1 r;cases (show u=ee p from P);obtain⟨its,U,J,G⟩:=I.list O;have L:=U.length;refine kI I (λus=>us=its) (λR F S=>?_) λus N=>⟨vs,Z,by rw[N];exact U,T,W,q⟩;refine collect_list J.isList (S its _ _ rfl λb o e=>?_) (by rw[OI];omega);have Y:b<s.heap.objs.size:=Nu e;rw[QQ _ _ _ _ (NB Y)];exact Nm _ e
def pT(P:eb)(w:eK)(a:bc)(kv:List KA):f'->Prop:=λh=>∃o es ep t L,SetAt P w h a o es ep t L/\Folded kv L
def mX(vs:List V)(nss:List (List Int)):List KA:=(d_ vs.length).map λi=>(nss.getD i [],match vs.getD i .non with| .ref a=>a|_=>0)
theorem Iw{H:Hp}(U:iG P w H h){ns:List Int}(e:H a=ar (.tup (ns.map V.int))):l_ (o_ P w) h ns a:=by
 obtain⟨_,ws,Z,o,Y,T,n,hd⟩:=(show bB P w H h a (.tup (ns.map V.int))from U a _ e);refine⟨o,ws.toArray,n,Y,T,hd,?_⟩;have W:=Ra Z;have go:∀{ws:List aC} {ns:List Int},pb ws ns->ItemsAre (o_ P w) ns ws:=by
  intro ws ns h
  induction h with
  |nil=>exact .nil
  |cons n t _ ih=>exact .cons (intKind_is _ _ _ _) ih
 simpa using go W
theorem Bs(B:X.calm=cn)(f:X.A.units+8<u3):d7 X (.type "set") (λxs H Q=>∃(p:bc) (vs:List V) (Z:List (List Int)),xs=[.ref p]/\(kS X.K H p vs\/ot X.K H p vs)/\
  (∀i,i<vs.length->∃a,vs[i]? =ar (.ref a)/\H a=ar (.tup ((Z.getD i []).map V.int)))/\vs.length<=18/\∀l,H l=none->Q (.ref l) (upd H l (.ext (pT X.prog X.w l (mX vs Z))))):=by
 intro pins s σ H xs us Q I r h;obtain⟨p,vs,Z,rfl,U,T,x,q⟩:=h;obtain⟨u,rfl,F⟩:=vals1 r;cases (show u=ee p from F);have src:∃its,bg vs its/\Src s.heap p its.toArray:=by
  rcases U with U|U
  ·obtain⟨its,Y,O,z⟩:=I.list U;exact⟨its,Y,.inl O.isList⟩
  ·obtain⟨its,Y,O,z⟩:=I.tuple U;exact⟨its,Y,.inr O⟩
 obtain⟨its,Y,hs⟩:=src;have W:=Y.length;have y:∀A:gg,A.in1.units<=A.units+1:=λA=>Nq _;have at':∀i,i<vs.length->∃a,its[i]? =ar (.ref a)/\vs.getD i .non= .ref a/\H a=ar (.tup ((Z.getD i []).map V.int)):=λi P=>by obtain⟨a,e1,e2⟩:=T i P;obtain⟨u,R,C⟩:=Y.get e1;cases (show u=ee a from C);exact⟨a,R,by rw[Ny,e1];rfl,e2⟩
 have hf:H s.heap.objs.size=none:=I.hok.fresh (Nq _);refine Iv (I.ok.hd B) (by show X.A.units+3<u3;omega) hs (λi=>(Z.getD i [],match vs.getD i .non with| .ref a=>a|_=>0)) (λi v S=>?_) (by rw[NA];omega) (λj G=>?_) λh' g o es ep t L J N n=>?_
 ·have P:i<vs.length:=by rw[W];simpa using(NQ.mp S).1
  obtain⟨a,e1,e2,_⟩:=at' i P;rw[Pb,e1]at S;cases S;simp only[e2]
 ·rw[NA]at G;obtain⟨a,e1,e2,e3⟩:=at' j (by omega);simp only[e2];exact Iw I.hok e3
 ·rw[NA, <-W]at N;refine⟨.ref s.heap.objs.size,_,I.laid (o:=.ext (pT X.prog X.w s.heap.objs.size (mX vs Z))) (λb o e=>n b o (Nu e) e) (Nq _) ⟨⟨o,es,ep,t,L,J,N⟩,⟨o,J.get⟩,λh1 h2 ⟨o,es,ep,t,L,a1,a2⟩ k=>⟨o,es,ep,t,L,a1.at k,a2⟩⟩,rfl,q _ hf⟩
theorem uX(G:X.calm=cn):d7 X (.builtin "sorted") (λxs H Q=>∃(p:bc) (T:List KA),xs=[.ref p]/\H p=ar (.ext (pT X.prog X.w p T))/\(∀k∈T,H k.2=ar (.tup (k.1.map V.int))/\k.1.length=2)/\T.length<=18/\
  ∀L q,Folded T L->i7 (L.map (·.1)) q->∀l,H l=none->Q (.ref l) (upd H l (.lst (q.map λi=>(L.map λk=>V.ref k.2).getD i .non)))):=by
 intro pins s σ H xs us Q I r h;obtain⟨p,T,rfl,z,O,x,q⟩:=h;obtain⟨u,rfl,K⟩:=vals1 r;cases (show u=ee p from K);obtain⟨⟨o,es,ep,t,L,N,P⟩,_,_⟩:=(show bB X.prog X.w H s.heap p (.ext (pT X.prog X.w p T))from I.hok p _ z);have n:=P.len;have S:∀l:List KA,bg (l.map λk=>V.ref k.2) (l.map λk=>ee k.2):=by
  intro l
  induction l with
  |nil=>exact .nil
  |cons k l ih=>exact .cons rfl ih
 refine kI I (λus=>∃Z:List KA,Z.Perm L/\us=Z.map λk=>ee k.2) (λR g B=>?_) ?_
 ·refine wA (by show X.A.handled=none;exact I.ok.hd G) N (by rw[N.len];omega) λh' j Z U v=>B _ _ _ ⟨Z,U,rfl⟩ v
 ·rintro us ⟨Z,U,rfl⟩;have Y:=P.perm U;have J:=Y.len;refine⟨Z.map λk=>V.ref k.2,Z.map (·.1),S Z,⟨by simp,λi W=>?_,λi W=>?_⟩,by simp;omega,λF y l C=>q Z F Y y l C⟩
  ·rw[Nl]at W;refine⟨Z[i].2,by rw[NM,Np W];rfl,?_⟩;have:=(O _ (Y.sub _ (Ot W))).1;rw[Ny,NM,Np W];exact this
  ·rw[Nl]at W;rw[Ny,NM,Np W];exact Nat.lt_of_lt_of_eq (by decide:0<2) (O _ (Y.sub _ (Ot W))).2.symm
def two(nss:List (List Int)):Bool:=nss.all λns=>ns.length !=0
def wB(nss:List (List Int)):M D:=if nss.length<64/\two nss=cn then bx ((ef nss).map tupI)else M.fail
def rH(xs:List D):M D:=match intsOf xs with
 |some ns=>if ns.length<64 then bx ((sortI ns).map D.int)else M.fail
 |none=>match rowsOf xs with
  |some nss=>wB nss
  |none=>M.fail
def cm:List D->M D
 |[.lst k]=>do
  let xs<-getL k
  rH xs
 |[.fz xs]=>rH xs
 |_=>M.fail
theorem FH{H:Hp}{vs:List V}{Z:List (List Int)}(h:vs.length=Z.length/\∀i,i<vs.length->∃a,vs[i]? =ar (.ref a)/\H a=ar (.tup ((Z.getD i []).map V.int)))(U:two Z=cn):TRow H vs Z:=
 ⟨h.1,h.2,λi W=>by
  have Y:i<Z.length:=by rw[<-h.1];exact W
  have:=N6.mp U Z[i] (Ot Y);rw[Ny,Np Y];exact Nat.pos_of_ne_zero λz=>by rw[show(ar Z[i]).getD []=Z[i]from rfl]at z;rw[z]at this;cases this⟩
theorem uY:nI X.K E cm (λxs H Q=>(∃(p:bc) (ns:List Int),xs=[.ref p]/\kS X.K H p (ns.map V.int)/\ns.length<64/\∀l,H l=none->Q (.ref l) (upd H l (.lst ((sortI ns).map V.int))))\/
  ∃(p:bc) (vs:List V) (nss:List (List Int)),xs=[.ref p]/\kS X.K H p vs/\TRow H vs nss/\vs.length<64/\∀q,i7 nss q->∀l,H l=none->Q (.ref l) (upd H l (.lst (q.map λi=>vs.getD i .non)))):=by
 intro ι S H ds vs Q rep r c;have fin:∀{es:List D} {us:List V} {p:bc},RelDs X.K ι H es us->Rd H p (.lst us)->cont X.K E (rH es) ι S H (mz X.K Q)->vs=[.ref p]->
   (∃(p:bc) (ns:List Int),vs=[.ref p]/\kS X.K H p (ns.map V.int)/\ns.length<64/\∀l,H l=none->Q (.ref l) (upd H l (.lst ((sortI ns).map V.int))))\/
  ∃(p:bc) (ws:List V) (nss:List (List Int)),vs=[.ref p]/\kS X.K H p ws/\TRow H ws nss/\ws.length<64/\∀q,i7 nss q->∀l,H l=none->Q (.ref l) (upd H l (.lst (q.map λi=>ws.getD i .non))):=by
  intro es us p W T Z U;unfold rH at Z;cases q:intsOf es with
  | some ns=>
   rw[q]at Z;have Y:cont X.K E (if ns.length<64 then bx ((sortI ns).map D.int)else M.fail) ι S H (mz X.K Q):=Z;by_cases h:ns.length<64
   ·rw[if_pos h]at Y;exact .inl ⟨p,ns,U,.inl (by rw[<-i6 W q];exact T),h,(bW Y rep (rg _)).2⟩
   ·rw[if_neg h]at Y;exact(ah Y).elim
  | none=>
   rw[q]at Z;cases q2:rowsOf es with
   |none=>rw[q2]at Z;exact(ah Z).elim
   | some nss=>
    rw[q2]at Z;have Y:cont X.K E (if nss.length<64/\two nss=cn then bx ((ef nss).map tupI)else M.fail) ι S H (mz X.K Q):=Z;by_cases h:nss.length<64/\two nss=cn
    ·rw[if_pos h]at Y;obtain⟨g1,g2⟩:=rF W q2;refine .inr ⟨p,us,nss,U,.inl T,FH ⟨g1,g2⟩ h.2,by omega,λR J l G=>?_⟩;have P:∀i∈R,i<us.length:=λi F=>by rw[g1];exact NR.mp (J.1.mem_iff.mp F)
     have I:RelDs X.K ι H ((ef nss).map tupI) (R.map λi=>us.getD i .non):=by rw[<-rE J];exact rG g2 R P
     exact(bW Y rep I).2 l G
    ·rw[if_neg h]at Y;exact(ah Y).elim
 unfold cm at c;split at c
 ·next k=>
  obtain⟨v,ws,rfl,N,L⟩:=r.cons_inv;cases L.nil_inv;obtain⟨p,rfl,O⟩:=N.lst_inv;obtain⟨es,us,_,T,W,Z⟩:=bh c rep O;exact fin W (.inl T) Z rfl
 ·next es=>
  obtain⟨v,ws,rfl,N,L⟩:=r.cons_inv;cases L.nil_inv;obtain⟨p,o,us,rfl,O,W⟩:=N.fz_inv;exact fin W (.inr ⟨o,O⟩) c rfl
 ·exact(ah c).elim
theorem j3(Y:X.mg "sorted"=none)(W:SE X E e m)(Z:Gl X "sorted":=by rfl)(hs:dV [e] X.env=[(dt,hO e X.env)]:=by rfl):SE X E (.Call (.Name "sorted" p) [e] [] pos) (λρ=>do let ds<-(do let x<-m ρ;let xs<-a_ [];a_ (x::xs));cm ds):=
 jW (d7.or uR sV) uY Z Y (by decide+kernel) (af W ak hs) (by decide) (by decide) hs rfl
def Iy(nss:List (List Int)):Bool:=nss.all λns=>ns.length==2
def dw(nss:List (List Int)):M D:=if nss.length<=18/\Iy nss=cn then bx ((fj nss).map tupI)else M.fail
def i8:List D->M D
 |[.lst k]=>do
  let xs<-getL k
  match rowsOf xs with
  |some nss=>dw nss
  |none=>M.fail
 |[.tup xs]=>match rowsOf xs with
  |some nss=>dw nss
  |none=>M.fail
 |[.fz xs]=>match rowsOf xs with
  |some nss=>dw nss
  |none=>M.fail
 |_=>M.fail
theorem FJ{vs:List V}{Z:List (List Int)}(h:vs.length=Z.length):(mX vs Z).map (·.1)=Z:=by
 unfold mX;rw[NK];refine Qu λi=>?_;rw[NM,h];by_cases hi:i<Z.length
 ·rw[P4 hi,Np hi];simp[pz,hi]
 ·rw[Oy (by simpa using hi),Oy (by omega)];rfl
theorem KI{K:c_}{ι:List bc}{H:Hp}{L:List KA}(h:∀k∈L,H k.2=ar (.tup (k.1.map V.int))):∀q:List Nat,(∀i∈q,i<L.length)->RelDs K ι H ((q.map λi=>(L.map (·.1)).getD i []).map tupI) (q.map λi=>(L.map λk=>V.ref k.2).getD i .non):=by
 intro q Y;refine rG (λi Z=>?_) q λi Z=>by rw[Nl];exact Y i Z
 rw[Nl]at Z;refine⟨L[i].2,by rw[NM,Np Z];rfl,?_⟩;rw[Ny,NM,Np Z];exact h _ (Ot Z)
theorem uZ{p q U:Pos}(hc:X.calm=cn)(hu:X.A.units+8<u3)(hm:X.mg "sorted"=none)(j:X.mg "set"=none)(ha:SE X E e m)(hg:Gl X "sorted":=by rfl)(a3:Gl X "set":=by rfl)(hs:dV [e] X.env=[(dt,hO e X.env)]:=by rfl)
  (z:dV [.Call (.Name "set" q) [e] [] U] X.env=[(dt,hO (.Call (.Name "set" q) [e] [] U) X.env)]:=by rfl):
  SE X E (.Call (.Name "sorted" p) [.Call (.Name "set" q) [e] [] U] [] pos) (λρ=>do let ds<-(do let x<-m ρ;let xs<-a_ [];a_ (x::xs));i8 ds):=by
 refine PE.imp (kT (uX hc) hg hm (by decide+kernel) (eT (lL (Bs hc hu) a3 j (by decide+kernel) (af ha ak hs) (by decide) (by decide) hs rfl) j8 z) (by decide) (by decide) z rfl) λσ H Q h=>?_;obtain⟨ι,S,ρ,rep,re,c⟩:=h;refine⟨ι,S,ρ,rep,re,aw (ai c) λds T S1 Y e1 rep1 c1 vs r=>?_⟩;have fin:∀{xs:List D} {us:List V} {a:bc} {Z:List (List Int)},RelDs X.K T Y xs us->rowsOf xs=ar Z->(kS X.K Y a us\/ot X.K Y a us)->cont X.K E (dw Z) T S1 Y (mz X.K Q)->vs=[.ref a]->
   ∃ (p:bc) (vs':List V) (Z:List (List Int)),vs=[.ref p]/\(kS X.K Y p vs'\/ot X.K Y p vs')/\
    (∀i,i<vs'.length->∃a,vs'[i]? =ar (.ref a)/\Y a=ar (.tup ((Z.getD i []).map V.int)))/\vs'.length<=18/\∀l,Y l=none->
     ∃(p:bc) (kv:List KA),[V.ref l]=[.ref p]/\upd Y l (.ext (pT X.prog X.w l (mX vs' Z))) p=ar (.ext (pT X.prog X.w p kv))/\(∀k∈kv,upd Y l (.ext (pT X.prog X.w l (mX vs' Z))) k.2=ar (.tup (k.1.map V.int))/\k.1.length=2)/\kv.length<=18/\
      ∀L q,Folded kv L->i7 (L.map (·.1)) q->∀B,upd Y l (.ext (pT X.prog X.w l (mX vs' Z))) B=none->Q (.ref B) (upd (upd Y l (.ext (pT X.prog X.w l (mX vs' Z)))) B (.lst (q.map λi=>(L.map λk=>V.ref k.2).getD i .non))):=by
  intro xs us a Z R W n J a0;unfold dw at J;by_cases h:Z.length<=18/\Iy Z=cn
  ·rw[if_pos h]at J;obtain⟨g1,g2⟩:=rF R W;refine⟨a,us,Z,a0,n,g2,by omega,λl u=>⟨l,mX us Z,rfl,a8,λk O=>?_,by unfold mX;simp;omega,λL qq hF hq B g=>?_⟩⟩
   ·unfold mX at O;obtain⟨i,P,rfl⟩:=NL.mp O;rw[NR]at P;obtain⟨b,f,G⟩:=g2 i P;have s:us.getD i .non= .ref b:=by rw[Ny,f];rfl
    simp only[s];refine⟨by rw[aO (aM G u)];exact G,?_⟩;have I:i<Z.length:=by omega
    have:=N6.mp h.2 Z[i] (Ot I);rw[Ny,Np I];simpa using this
   ·have hE:Ext T Y T (upd Y l (.ext (pT X.prog X.w l (mX us Z)))):=fU u;have rep2:=iJ (o:=.ext (pT X.prog X.w l (mX us Z))) rep1 u;have d:∀i∈qq,i<L.length:=λi P=>by
     have:=NR.mp (hq.1.mem_iff.mp P);simpa using this
    have O:∀k∈L,upd Y l (.ext (pT X.prog X.w l (mX us Z))) k.2=ar (.tup (k.1.map V.int)):=λk O=>by
     have C:=hF.sub k O;unfold mX at C;obtain⟨i,P,rfl⟩:=NL.mp C;rw[NR]at P;obtain⟨b,f,G⟩:=g2 i P;have s:us.getD i .non= .ref b:=by rw[Ny,f];rfl
     simp only[s];rw[aO (aM G u)];exact G
    have rr:=KI (K:=X.K) (ι:=T) O qq d;rw[rE hq,Dp hF,FJ g1]at rr;exact(bW (gu J hE) rep2 rr).2 B g
  ·rw[if_neg h]at J;exact(ah J).elim
 unfold i8 at c1;split at c1
 ·next k=>
  obtain⟨v,ws,rfl,y,N⟩:=r.cons_inv;cases N.nil_inv;obtain⟨a,rfl,F⟩:=y.lst_inv;obtain⟨es,us,_,hv,R,t⟩:=bh c1 rep1 F;cases W:rowsOf es with
  |none=>rw[W]at t;exact(ah t).elim
  |some Z=>
   rw[W]at t;exact fin R W (.inl (.of hv)) t rfl
 ·next xs=>
  obtain⟨v,ws,rfl,y,N⟩:=r.cons_inv;cases N.nil_inv;obtain⟨a,us,rfl,F,R⟩:=y.tup_inv;cases W:rowsOf xs with
  |none=>rw[W]at c1;exact(ah c1).elim
  |some Z=>
   rw[W]at c1;exact fin R W (.inr (.of F)) c1 rfl
 ·next xs=>
  obtain⟨v,ws,rfl,y,N⟩:=r.cons_inv;cases N.nil_inv;obtain⟨a,o,us,rfl,F,R⟩:=y.fz_inv;cases W:rowsOf xs with
  |none=>rw[W]at c1;exact(ah c1).elim
  |some Z=>
   rw[W]at c1;exact fin R W (.inl (.inl (.inr ⟨o,F⟩))) c1 rfl
 ·exact(ah c1).elim
end
end S3
namespace S4
open PySem PySem.Spec PyProof.Rows L2 S3
section
variable {prog:eb}{w:eK}{A:gg}{E:aC->b_->Prop}{s:b_}
theorem ke{Q:aC->b_->Prop}(Z:s.heap.IsTupleIter it t i)(U:s.heap.IsTuple t items)(R:items[i]? =ar x)
  (S:∀h',h'.IsTupleIter it t (i+1)->s_ it s.heap h'->Q x {s with heap:=h'}):ed (fb prog w) A (j' (.ref it)) Q E s:=by
 obtain⟨o,Y,T,hd⟩:=id Z;obtain⟨ol,W,_,nl,X⟩:=U;unfold j';refine Nk (wpAny_callSpecial?_slot (name:=i_ "__next__") Z.typeIs O8
  (Os O8 Z.typeIs QR ?_ (QM _)))
 show ed _ _ (SU (.ref it) 0>>=_) _ _ s;refine Nk (Ow Y hd (x:=.ref t) rfl ?_);show ed _ _ (if (ee t==h_)=cn then _ else _) _ _ s;rw[if_neg (show ¬ ((ee t==h_)=cn)from OD)];show ed _ _ (SU (.ref it) 1>>=_) _ _ s;refine Nk (Ow Y hd (x:=.int i 0) rfl ?_);show ed _ _ (TB (.ref t)>>=_) _ _ s;refine Nk (OT W X ?_);simp only[M_,R];refine Nk (Py Y hd (by simp) (Nr ⟨x,rfl,Nr (S _ ?_ (OR ..))⟩));exact⟨_,Ox _ Y (PQ (OY hd _)),(Rl ..).trans T,by rw[OY hd];simp[n0]⟩
theorem lW(U:A.handled=none)(Z:s.heap.IsTupleIter it t i)(T:s.heap.IsTuple t items)(R:items[i]? =none)
  (S:∀h' e,SR it s.heap h'->(∃o,h'.get? e=ar o/\o.cls= .type "StopIteration")->E (.ref e) {s with heap:=h'}):ed (fb prog w) A (j' (.ref it)) Q E s:=by
 obtain⟨o,Y,P,hd⟩:=id Z;obtain⟨ol,W,_,nl,X⟩:=T;unfold j';refine Nk (wpAny_callSpecial?_slot (name:=i_ "__next__") Z.typeIs O8
  (Os O8 Z.typeIs QR ?_ (QM _)))
 show ed _ _ (SU (.ref it) 0>>=_) _ _ s;refine Nk (Ow Y hd (x:=.ref t) rfl ?_);show ed _ _ (if (ee t==h_)=cn then _ else _) _ _ s;rw[if_neg (show ¬ ((ee t==h_)=cn)from OD)];show ed _ _ (SU (.ref it) 1>>=_) _ _ s;refine Nk (Ow Y hd (x:=.int i 0) rfl ?_);show ed _ _ (TB (.ref t)>>=_) _ _ s;refine Nk (OT W X ?_);simp only[M_,R];refine Nk (P6 (Nk (Py Y hd (by simp) ?_)));show ed _ _ (T9 (.type "StopIteration") []>>=_) _ _ _;refine Nk ?_;simp only[T9,newTuple];refine Nk (Od ?_ (by size_fits));refine Nk (m:=L_ _ _) (RK (a:=h_) (by first|rfl|(simp only[L_];rfl)) ?_);refine Od ?_ (by size_fits);simp only[raiseNew];refine Nk (wpAny_handled ?_);first|rw[show A.in1.handled=none from U]|rw[U]
 refine Nk (Nr (wpAny_throw ?_));exact S _ _ (((OR ..).extBut.push _).push _) ⟨_,Nw _ rfl,rfl⟩
theorem Bt{z TI TO N K t r:bc}{k:Nat}{xs ys:Array aC}{x y a b:aC}{Q:Option aC->b_->Prop}(D:Tp z TI TO N K t r)
  (B:RO s.heap z TI TO .none) (i:rn s.heap TI (.ref N) (.ref K)) (a5:rn s.heap TO a b)
  (h1:s.heap.IsTupleIter N t k) (h2:s.heap.IsTupleIter K r k) (d:s.heap.IsTuple t xs) (a4:s.heap.IsTuple r ys) (hx:xs[k]? =ar x) (hy:ys[k]? =ar y)
  (hQ:∀h',RO h' z TI TO (n0 s.heap.objs.size)->rn h' TO x y->h'.IsTupleIter N t (k+1)->h'.IsTupleIter K r (k+1)->rn h' s.heap.objs.size x y->h'.objs.size=s.heap.objs.size+1->
   (∀c o,c≠z->c≠TO->c≠N->c≠K->s.heap.get? c=ar o->h'.get? c=ar o)->Q (ar (.ref s.heap.objs.size)) {s with heap:=h'}):ed (fb prog w) A (A' (.ref z)) Q E s:=by
 have hT:s.TypeIs (.ref z) "zip":=⟨_,B,rfl⟩;unfold A';refine Nk (PR (wpAny_callSpecial?_slot (name:=i_ "__next__") hT QS (Os QS hT F.entry_zip_next ?_ (F.args_zip_next_1 _))));show ed _ _ (SU (.ref z) 2>>=_) _ _ _;refine Nk (Ow B rfl (x:=.bool dt) rfl ?_);show ed _ _ (SU (.ref z) 3>>=_) _ _ _;refine Nk (Ow B rfl (x:=.ref TI) rfl ?_);refine Nk (OT i rfl ?_);show ed _ _ (mu (.ref z)>>=_) _ _ _;refine Nk ?_;unfold mu;refine Nk (Ow B rfl (x:=.none) rfl (Nr ?_));simp only[if_true];refine Nk (P6 ?_);refine Nk (Ow B rfl (x:=.ref TO) rfl ?_);refine Nk (Pc B (by simp) λg1 I Z=>?_);replace I:RO g1 z TI TO .ellipsis:=I;refine Nk ?_;simp only[RP,List.zipIdx_nil,RU,List.forIn_nil];refine Nk (Nk (Rp ?_));show ed _ _ (j' (.ref N)>>=_) _ _ _;refine Nk (ke (s:={s with heap:=g1}) (h1.at λo e=>Z.extBut _ _ D.i1z e) (d.extBut Z.extBut D.l1z) hx λg2 l W=>Nr ?_);have J:rn g2 TO a b:=W.extBut _ _ D.TOi1 (Z.extBut _ _ D.TOz a5);refine Nk (OT J rfl ?_);refine Nk (QJ J λg3 T U=>?_);replace T:rn g3 TO x b:=T;refine Nk (SV (Nr ?_));refine Nk (Nk (Rp ?_));show ed _ _ (j' (.ref K)>>=_) _ _ _;refine Nk (ke (s:={s with heap:=g3}) (((h2.at λo e=>Z.extBut _ _ D.i2z e).at λo e=>W.extBut _ _ D.i12.symm e).at λo e=>U.extBut _ _ D.TOi2.symm e)
  (((a4.extBut Z.extBut D.l2z).extBut W.extBut D.l2i1).extBut U.extBut D.l2TO) hy λg4 f R=>Nr ?_)
 have L:rn g4 TO x b:=R.extBut _ _ D.TOi2 T;refine Nk (OT L rfl ?_);refine Nk (QJ L λY X S=>?_);replace X:rn Y TO x y:=X;refine Nk (SV (Nr (Nr ?_)));refine Nk (OT X rfl ?_);refine Nk (wpAny_newTuple ?_);have q:Y.objs.size=s.heap.objs.size:=by rw[S.1,R.1,U.1,W.1,Z.1]
 have p:RO Y z TI TO .ellipsis:=S.extBut _ _ D.TOz.symm (R.extBut _ _ D.i2z.symm (U.extBut _ _ D.TOz.symm (W.extBut _ _ D.i1z.symm I)));have j:∀c o,c≠z->c≠TO->c≠N->c≠K->s.heap.get? c=ar o->Y.get? c=ar o:=λc o c1 m c3 g e=>
  S.extBut _ _ m (R.extBut _ _ g (U.extBut _ _ m (W.extBut _ _ c3 (Z.extBut _ _ c1 e))))
 have a3:Y.IsTupleIter N t (k+1):=((l.at λo e=>U.extBut _ _ D.TOi1.symm e).at λo e=>R.extBut _ _ D.i12 e).at λo e=>S.extBut _ _ D.TOi1.symm e;have h:Y.IsTupleIter K r (k+1):=f.at λo e=>S.extBut _ _ D.TOi2.symm e;have O:z<Y.objs.size:=Nu p;show ed _ _ (Builtin.SmallTypes.ownedTupleHandOut (.ref z) (.ref Y.objs.size)>>=_) _ _ _;refine Nk ?_;unfold Builtin.SmallTypes.ownedTupleHandOut;have a0:RO (Y.push {cls:=.type "tuple",data:=.seq #[x,y]}) z TI TO .ellipsis:=Nm _ p;refine Nk (Pc a0 (by simp) λg7 G H=>?_);replace G:RO g7 z TI TO (n0 Y.objs.size):=G;refine Pc G (by simp) λu P C=>?_;replace P:RO u z TI TO (n0 Y.objs.size):=P;have up:∀c o,c≠z->Y.get? c=ar o->u.get? c=ar o:=λc o c1 e=>C.extBut _ _ c1 (H.extBut _ _ c1 (Nm _ e));have v:rn u Y.objs.size x y:=C.extBut _ _ (O2 O) (H.extBut _ _ (O2 O) (Nw _ rfl));have n:u.objs.size=Y.objs.size+1:=by rw[C.1,H.1,OB]
 rw[q]at P v n;refine Nr ⟨_,rfl,?_⟩;refine Nr ?_;show Q (ar (.ref Y.objs.size)) _;rw[q];exact hQ u P (up _ _ D.TOz X) (a3.at λo e=>up _ o D.i1z e) (h.at λo e=>up _ o D.i2z e) v n λc o c1 m c3 g e=>up c o c1 (j c o c1 m c3 g e)
theorem Dq{z TI TO K L y u:bc}{k:Nat}{xs ys:Array aC}{a b:aC}{Q:Option aC->b_->Prop}(l:A.handled=none)(D:Tp z TI TO K L y u)
  (N:RO s.heap z TI TO .none) (r:rn s.heap TI (.ref K) (.ref L)) (p:rn s.heap TO a b)
  (j:s.heap.IsTupleIter K y k) (h2:s.heap.IsTupleIter L u k) (G:s.heap.IsTuple y xs) (q:s.heap.IsTuple u ys) (J:xs[k]? =none\/ys[k]? =none)
  (t:∀h',(∀c o,c≠z->c≠TO->c≠K->c≠L->s.heap.get? c=ar o->h'.get? c=ar o)->Q none {s with heap:=h'}):ed (fb prog w) A (A' (.ref z)) Q E s:=by
 have i:s.TypeIs (.ref z) "zip":=⟨_,N,rfl⟩;unfold A';refine Nk (PR (wpAny_callSpecial?_slot (name:=i_ "__next__") i QS (Os QS i F.entry_zip_next ?_ (F.args_zip_next_1 _))));have stop:∀(g:f') (e:bc),(∃o,g.get? e=ar o/\o.cls= .type "StopIteration")->(∀c o,c≠z->c≠TO->c≠K->c≠L->s.heap.get? c=ar o->g.get? c=ar o)->∀R:aC->b_->Prop,
   (∀v s',ed (fb prog w) A (do if<-isInstance v (.type "StopIteration")then a_ none else throw v) Q E s'->R v s')->R (.ref e) {s with heap:=g}:=λg e ⟨o,ho,hc⟩ hk R hR=>hR _ _ (by
  refine Nk (Pr (T:="StopIteration") (b:=cn) ⟨o,ho,hc⟩ Qx ?_);exact Nr (t _ hk))
 show ed _ _ (SU (.ref z) 2>>=_) _ _ _;refine Nk (Ow N rfl (x:=.bool dt) rfl ?_);show ed _ _ (SU (.ref z) 3>>=_) _ _ _;refine Nk (Ow N rfl (x:=.ref TI) rfl ?_);refine Nk (OT r rfl ?_);show ed _ _ (mu (.ref z)>>=_) _ _ _;refine Nk ?_;unfold mu;refine Nk (Ow N rfl (x:=.none) rfl (Nr ?_));simp only[if_true];refine Nk (P6 ?_);refine Nk (Ow N rfl (x:=.ref TO) rfl ?_);refine Nk (Pc N (by simp) λg1 S Z=>?_);replace S:RO g1 z TI TO .ellipsis:=S;refine Nk ?_;simp only[RP,List.zipIdx_nil,RU,List.forIn_nil];refine Nk (Nk (Rp ?_));show ed _ _ (j' (.ref K)>>=_) _ _ _;cases hx:xs[k]? with
 |none=>
  refine Nk (lW (s:={s with heap:=g1}) l (j.at λo e=>Z.extBut _ _ D.i1z e) (G.extBut Z.extBut D.l1z) hx λg2 e Y he=>?_);obtain⟨n,X,U⟩:=he;have I:RO g2 z TI TO .ellipsis:=Y _ _ D.i1z.symm S;have O:e≠z:=λx=>by subst x;rw[I]at X;cases X;simp at U
  refine Pc I (by simp) λg3 _ W=>?_;refine Nk (Pr (T:="StopIteration") (b:=cn) ⟨n,W.extBut _ _ O X,U⟩ Qx ?_);exact Nr (t _ λc o c1 _ c3 _ x=>W.extBut _ _ c1 (Y _ _ c3 (Z.extBut _ _ c1 x)))
 | some x=>
  have hy:ys[k]? =none:=by rcases J with h|h;rw[hx]at h;cases h;exact h
  refine Nk (ke (s:={s with heap:=g1}) (j.at λo e=>Z.extBut _ _ D.i1z e) (G.extBut Z.extBut D.l1z) hx λg2 f Y=>Nr ?_);have P:rn g2 TO a b:=Y.extBut _ _ D.TOi1 (Z.extBut _ _ D.TOz p);refine Nk (OT P rfl ?_);refine Nk (QJ P λg3 m W=>?_);refine Nk (SV (Nr ?_));refine Nk (Nk (Rp ?_));show ed _ _ (j' (.ref L)>>=_) _ _ _;refine Nk (lW (s:={s with heap:=g3}) l (((h2.at λo e=>Z.extBut _ _ D.i2z e).at λo e=>Y.extBut _ _ D.i12.symm e).at λo e=>W.extBut _ _ D.TOi2.symm e)
   (((q.extBut Z.extBut D.l2z).extBut Y.extBut D.l2i1).extBut W.extBut D.l2TO) hy λd e C he=>?_)
  obtain⟨n,X,U⟩:=he;have H:RO d z TI TO .ellipsis:=C _ _ D.i2z.symm (W.extBut _ _ D.TOz.symm (Y.extBut _ _ D.i1z.symm S));have O:e≠z:=λx=>by subst x;rw[H]at X;cases X;simp at U
  refine Pc H (by simp) λg5 _ B=>?_;refine Nk (Pr (T:="StopIteration") (b:=cn) ⟨n,B.extBut _ _ O X,U⟩ Qx ?_);exact Nr (t _ λc o c1 c2 c3 c4 x=>B.extBut _ _ c1 (C _ _ c4 (W.extBut _ _ c2 (Y.extBut _ _ c3 (Z.extBut _ _ c1 x)))))
end
def E6(l:bc):Obj:={cls:=.type "tuple_iterator",data:=.fields #[.ref l,.int 0 0]}
def Iz(h:f')(l1:bc):Heap:=h.push (E6 l1)
def IA(h:f')(l1 l2:bc):Heap:=(Iz h l1).push (E6 l2)
def IB(h:f')(l1 l2:bc):Heap:=(IA h l1 l2).push {cls:=.type "tuple",data:=.seq #[.ref h.objs.size,.ref (Iz h l1).objs.size]}
def JS(h:f')(l1 l2:bc):Heap:=(IB h l1 l2).push {cls:=.type "tuple",data:=.seq #[.none,.none]}
def IC(h:f')(l1 l2:bc):Heap:=(JS h l1 l2).push {cls:=.type "zip",data:=.fields #[.none,.bool dt,.bool dt,.ref (IA h l1 l2).objs.size,.ref (IB h l1 l2).objs.size]}
theorem ID(Z Y:bc)(xs ys:Array aC):
  Meets (Builtin.«zip.__new__» ⟨[.type "zip",.ref Z,.ref Y],[]⟩) (λ_ R s=>s.heap.IsTuple Z xs/\s.heap.IsTuple Y ys/\R (.ok (.ret (.ref (JS s.heap Z Y).objs.size))) {s with heap:=IC s.heap Z Y}):=
 .of_wp λprog w A R s h=>by
  obtain⟨S,g,d,Q,os⟩:=s;obtain⟨W,X,h⟩:=h;have P:=sub_zip;have T:Sy (SW ⟨S,g,d,Q,os⟩) Z xs:=W;have U:Sy (SW ⟨S.push {cls:=.type "tuple_iterator",data:=.fields #[.ref Z,.int 0 0]},g,d,Q,os⟩) Y ys:=let ⟨o,e,r⟩:=X;⟨o,Nm _ e,r⟩
  wp_walk using OW T,OW U
  exact⟨_,rfl,h⟩
section
variable {prog:eb}{w:eK}{A:gg}{E:aC->b_->Prop}{s:b_}
theorem Bu{Q:aC->b_->Prop}(S:s.heap.IsTuple l1 xs)(T:s.heap.IsTuple l2 ys)
  (h:∀h',RO h' (s.heap.objs.size+4) (s.heap.objs.size+2) (s.heap.objs.size+3) .none->rn h' (s.heap.objs.size+2) (.ref s.heap.objs.size) (.ref (s.heap.objs.size+1))->
   rn h' (s.heap.objs.size+3) .none .none->h'.IsTupleIter s.heap.objs.size l1 0->h'.IsTupleIter (s.heap.objs.size+1) l2 0->(∀c o,s.heap.get? c=ar o->h'.get? c=ar o)->Q (.ref (s.heap.objs.size+4)) {s with heap:=h'}):
  ed (fb prog w) A (call (.type "zip") [.ref l1,.ref l2]) Q E s:=by
 refine callType_new F.called_zip (by decide) (F.typeCall_zip_2 _ _) (F.newCall_zip_2 _ _) (λobj=>F.args_object_init_3 obj _ _) F.entry_zip_new (ID l1 l2 xs ys) ⟨S,T,?_⟩;have X:(Iz s.heap l1).objs.size=s.heap.objs.size+1:=OB ..;have W:(IA s.heap l1 l2).objs.size=s.heap.objs.size+2:=(OB ..).trans (by rw[X]);have P:(IB s.heap l1 l2).objs.size=s.heap.objs.size+3:=(OB ..).trans (by rw[W]);have L:(JS s.heap l1 l2).objs.size=s.heap.objs.size+4:=(OB ..).trans (by rw[P]);have Z:∀{c o},(JS s.heap l1 l2).get? c=ar o->(IC s.heap l1 l2).get? c=ar o:=λe=>Nm _ e;have Y:∀{c o},(IB s.heap l1 l2).get? c=ar o->(JS s.heap l1 l2).get? c=ar o:=λe=>Nm _ e;have U:∀{c o},(IA s.heap l1 l2).get? c=ar o->(IB s.heap l1 l2).get? c=ar o:=λe=>Nm _ e;have O:∀{c o},(Iz s.heap l1).get? c=ar o->(IA s.heap l1 l2).get? c=ar o:=λe=>Nm _ e;have K:∀{c o},s.heap.get? c=ar o->(Iz s.heap l1).get? c=ar o:=λe=>Nm _ e;have R:(IC s.heap l1 l2).get? (JS s.heap l1 l2).objs.size=ar {cls:=.type "zip",data:=.fields #[.none,.bool dt,.bool dt,.ref (IA s.heap l1 l2).objs.size,.ref (IB s.heap l1 l2).objs.size]}:=Nw _ rfl;have N:(IC s.heap l1 l2).get? (IB s.heap l1 l2).objs.size=ar {cls:=.type "tuple",data:=.seq #[.none,.none]}:=Z (Nw _ rfl);have g3:(IC s.heap l1 l2).get? (IA s.heap l1 l2).objs.size=ar {cls:=.type "tuple",data:=.seq #[.ref s.heap.objs.size,.ref (Iz s.heap l1).objs.size]}:=Z (Y (Nw _ rfl));have g2:(IC s.heap l1 l2).get? (Iz s.heap l1).objs.size=ar (E6 l2):=Z (Y (U (Nw _ rfl)));have g1:(IC s.heap l1 l2).get? s.heap.objs.size=ar (E6 l1):=Z (Y (U (O (Nw _ rfl))));show _/\_;rw[W,P,L]at R;rw[X,W]at g3;rw[P]at N;rw[X]at g2;rw[L];exact⟨⟨_,R,rfl⟩,h _ R g3 N ⟨_,g1,rfl,rfl⟩ ⟨_,g2,rfl,rfl⟩ λc o x=>Z (Y (U (O (K x))))⟩
end
def Cf(va vb:List V):It:=⟨λi _=>i<va.length/\i<vb.length,λi H x H'=>∃p a b,H p=none/\va[i]? =ar a/\vb[i]? =ar b/\x= .ref p/\H'=upd H p (.tup [a,b]),λi _=>va.length<=i\/vb.length<=i⟩
section
variable {X:Cx}{pins:List (bc×Obj)}{σ:L2.St}{H:Hp}{s:b_}
theorem u6{h':f'}{t':Nat}{ch:List bc}(I:L2.Inv X pins σ H s)(W:∀b∈ch,j7 X pins H b)(k:∀b o,b∉ch->s.heap.get? b=ar o->h'.get? b=ar o):L2.Inv X pins σ H {s with heap:=h',toks:=t'}:=by
 have Y:∀b u,H b=ar u->b∉ch:=λb u e z=>by rw[(W b z).1]at e;cases e
 refine I.step (g':=s.gens) (d':=s.drawn) (ch:=ch) (λb T=>?_) (λb o _ _ Z e _=>k b o Z e) (λb o _ _ Z e _=>⟨o.slots,k b o Z e⟩) (λ_ _ _ _ n=>n)
  (λb o Z e=>⟨o,k b o Z e⟩) (λ_ _ e=>e) (λ_ _ _ e=>e) (λb Q e=>⟨#[],by rw[e];simp⟩) (λm hm=>?_) (λb u e=>?_) I.bare
 ·obtain⟨f0,f1,f2,R,f4,S⟩:=W b T;exact⟨R,f1,f4,S⟩
 ·obtain⟨o,es,ep,U,r⟩:=hm;exact⟨o,es,ep,k _ o (λz=>(W _ z).2.1 rfl) U,r⟩
 ·refine(I.hok b u e).stay (λc v Z q=>k c v ?_ q) (λ_ q=>q) λ_ _ q=>q;rcases Z with z|z
  ·rw[z];exact Y b u e
  ·exact Y c _ z
theorem u7{h':f'}{t':Nat}{ch:List bc}{a:bc}{o:HO}(I:L2.Inv X pins σ H s)(T:∀b∈ch,j7 X pins H b)(k:∀b o,b∉ch->s.heap.get? b=ar o->h'.get? b=ar o)(R:s.heap.objs.size<=a)(S:bB X.prog X.w (upd H a o) h' a o):
  L2.Inv X pins σ (upd H a o) {s with heap:=h',toks:=t'}:=by
 have W:H a=none:=I.hok.fresh R;have Y:∀b u,H b=ar u->b∉ch:=λb u e z=>by rw[(T b z).1]at e;cases e
 have ne:∀b o,s.heap.get? b=ar o->b≠a:=λb o e=>NB (NC (Nu e) R);refine I.step (g':=s.gens) (d':=s.drawn) (ch:=ch) (λb U=>?_) (λb o _ _ Z e _=>k b o Z e) (λb o _ _ Z e _=>⟨o.slots,k b o Z e⟩) (λb o _ e n=>by rw[aO (ne b o e)];exact n)
  (λb o Z e=>⟨o,k b o Z e⟩) (λb xs e=>by rw[aO (aM e W)];exact e) (λb _ _ e=>by rw[aO (aM e W)];exact e) (λb N e=>⟨#[],by rw[aO (aM e W),e];simp⟩) (λm hm=>?_) (λb u e=>?_) I.bare
 ·obtain⟨f0,f1,f2,O,f4,P⟩:=T b U;exact⟨O,f1,f4,P⟩
 ·obtain⟨o,es,ep,Q,r⟩:=hm;exact⟨o,es,ep,k _ o (λz=>(T _ z).2.1 rfl) Q,r⟩
 ·by_cases U:b=a
  ·subst U;rw[a8]at e;cases e;exact S
  ·rw[aO U]at e;refine(I.hok b u e).stay (λc v Z q=>k c v ?_ q) (λc q=>by rw[aO (aM q W)];exact q) λc xs q=>by rw[aO (aM q W)];exact q
   rcases Z with z|z
   ·rw[z];exact Y b u e
   ·exact Y c _ z
end
theorem Ds{P:eb}{w:eK}{K:c_}{A:List Expr}{x1}{tp:Pos}{z TI TO Q N l1 l2:bc}(D:Tp z TI TO Q N l1 l2){G C:List V}(l:Hp->Prop)(q:∀H,l H↔(H l1=ar (.tup G)/\H l2=ar (.tup C))):
  Turn P w K (.Tuple A x1 tp) ⟨λi H=>(Cf G C).go i H/\l H,(Cf G C).yld,λi H=>(Cf G C).stop i H/\l H⟩ [z,TI,TO,Q,N] z
   (λi h=>RO h z TI TO .none/\rn h TI (.ref Q) (.ref N)/\(∃a b,rn h TO a b)/\h.IsTupleIter Q l1 i/\h.IsTupleIter N l2 i) where
 mem:=by simp
 obj:=λi h st b Y=>by
  obtain⟨S,Z,⟨a,c,U⟩,⟨o1,e1,c1,d1⟩,⟨o2,e2,c2,d2⟩⟩:=st;simp only[gc,fc,or_false]at Y;rcases Y with rfl|rfl|rfl|rfl|rfl
  ·exact⟨_,S,λv z=>by cases z⟩
  ·exact⟨_,Z,λv z=>by cases z⟩
  ·exact⟨_,U,λv z=>by cases z⟩
  ·exact⟨_,e1,λv z=>by rw[d1]at z;cases z⟩
  ·exact⟨_,e2,λv z=>by rw[d2]at z;cases z⟩
 keep:=λi h h' st k=>by obtain⟨S,Z,⟨a,c,U⟩,J,F⟩:=st;exact⟨k z (by simp) _ S,k TI (by simp) _ Z,⟨a,c,k TO (by simp) _ U⟩,J.at λo e=>k Q (by simp) o e,F.at λo e=>k N (by simp) o e⟩
 item:=by
  intro X hP hw d hc i pins s σ H E I hf st hg;subst hP hw d;obtain⟨S,Z,⟨a,c,U⟩,J,F⟩:=st;obtain⟨⟨ga,gb⟩,hH⟩:=hg;obtain⟨f,hB⟩:=(q H).mp hH;obtain⟨B,O,p1,_⟩:=I.tuple (.of f);obtain⟨u,L,n,_⟩:=I.tuple (.of hB);obtain⟨u1,c4,j⟩:=O.get (Np ga);obtain⟨u2,b5,b6⟩:=L.get (Np gb);refine Bt D S Z U J F p1 n (x:=u1) (y:=u2) (by simpa using c4) (by simpa using b5) λh' a1 a2 a3 a4 a5 a6 p=>?_;have b4:H s.heap.objs.size=none:=I.hok.fresh (Nq _);have lt:∀{c o},s.heap.get? c=ar o->s.heap.objs.size≠c:=λe=>O2 (Nu e);refine⟨_,rfl,Q5 a1 λR m T=>?_⟩;have r:rn R TI (.ref Q) (.ref N):=T.extBut _ _ D.TIz (p _ _ D.TIz D.TITO D.TIi1 D.TIi2 Z);have kk:∀b o,b∉[z,TI,TO,Q,N]->s.heap.get? b=ar o->R.get? b=ar o:=λb o Y e=>by simp only[gc,fc,or_false,not_or]at Y;exact T.extBut _ _ Y.1 (p b o Y.1 Y.2.2.1 Y.2.2.2.1 Y.2.2.2.2 e)
  have t:rn R s.heap.objs.size u1 u2:=T.extBut _ _ (lt S) a5;have I2:L2.Inv X pins σ (upd H s.heap.objs.size (.tup [G[i],C[i]])) {s with heap:=R,toks:=s.toks}:=u7 (o:=.tup [G[i],C[i]]) I hf kk (Nq _) ⟨⟨by show 2<=sizeLine;decide,_,t,rfl⟩,[u1,u2],.cons j (.cons b6 .nil),_,t,rfl,_,rfl⟩;refine⟨.ref s.heap.objs.size,_,I2,rfl,
   ⟨_,_,_,b4,Np ga,Np gb,rfl,rfl⟩,⟨m,r,⟨_,_,T.extBut _ _ D.TOz a2⟩,a3.at λo e=>T.extBut _ _ D.i1z e,a4.at λo e=>T.extBut _ _ D.i2z e⟩,λb Y=>?_⟩
  obtain⟨ob,ho,_⟩:∃ob,s.heap.get? b=ar ob/\True:=by
   simp only[gc,fc,or_false]at Y;rcases Y with rfl|rfl|rfl|rfl|rfl
   ·exact⟨_,S,trivial⟩
   ·exact⟨_,Z,trivial⟩
   ·exact⟨_,U,trivial⟩
   ·obtain⟨o,e,_⟩:=J;exact⟨_,e,trivial⟩
   ·obtain⟨o,e,_⟩:=F;exact⟨_,e,trivial⟩
  rw[aO (NB (Nu ho))];exact(hf b Y).1
 done:=by intro X hP hw d hc i pins s σ H E I hf st hg;subst hP hw d;obtain⟨S,Z,⟨a,c,U⟩,J,F⟩:=st;obtain⟨gs,hH⟩:=hg;obtain⟨f,hB⟩:=(q H).mp hH;obtain⟨B,O,p1,_⟩:=I.tuple (.of f);obtain⟨u,L,n,_⟩:=I.tuple (.of hB);have e7:=O.length;have f3:=L.length;refine Dq (I.ok.hd hc) D S Z U J F p1 n (gs.imp (λg=>by simp;omega) λg=>by simp;omega) λh' p=>⟨rfl,u6 (t':=s.toks) I hf λb o Y e=>?_⟩;simp only[gc,fc,or_false,not_or]at Y;exact p b o Y.1 Y.2.2.1 Y.2.2.2.1 Y.2.2.2.2 e
 self:=λ_ _ _ _ _ st h=>QD st.1 h
theorem zip_get{xs ys:List D}{i:Nat}{d:D}(h:((xs.zip ys).map λp=>D.tup [p.1,p.2])[i]? =ar d):∃x y,xs[i]? =ar x/\ys[i]? =ar y/\d= .tup [x,y]:=by
 rw[NM]at h;cases q:(xs.zip ys)[i]? with
 |none=>rw[q]at h;cases h
 |some p=>
  rw[q]at h;cases h;obtain⟨Y,Z⟩:=PY.mp q;exact⟨p.1,p.2,Y,Z,rfl⟩
theorem yD{K:c_}{ι:List bc}{H:Hp}{S:az}{a b:bc}{Y X:List V}{xs ys:List D}(Z:Rep K ι H S)(I:H a=ar (.tup Y))(F:H b=ar (.tup X))(C:RelDs K ι H xs Y)(B:RelDs K ι H ys X):
  jF K ⟨(xs.zip ys).map λp=>.tup [p.1,p.2],.none⟩ ⟨λi H=>(Cf Y X).go i H/\(H a=ar (.tup Y)/\H b=ar (.tup X)),(Cf Y X).yld,λi H=>(Cf Y X).stop i H/\(H a=ar (.tup Y)/\H b=ar (.tup X))⟩ ι H:=by
 intro Q O S2 e rep2 ok i;have R:O a=ar (.tup Y):=(e.oth a _ I (Z.notIn I (by intro _ z;cases z)) (by intro _ z;cases z) (by intro _ z;cases z)).1;have T:O b=ar (.tup X):=(e.oth b _ F (Z.notIn F (by intro _ z;cases z)) (by intro _ z;cases z) (by intro _ z;cases z)).1;have U:=C.laterN Z e;have P:=B.laterN Z e;have r:=U.length;have q:=P.length;refine⟨λd hd=>?_,λhlen=>?_⟩
 ·obtain⟨x,y,G,E,rfl⟩:=zip_get hd;have t:=(Nt.mp G).1;have u:=(Nt.mp E).1;refine⟨⟨⟨by omega,by omega⟩,R,T⟩,?_⟩;rintro v H3 ⟨p,N,L,hp,g1,g2,rfl,rfl⟩;obtain⟨v1,e1,A⟩:=U.get' G;obtain⟨v2,e2,w⟩:=P.get' E;obtain rfl:v1=N:=NP (e1.symm.trans g1);obtain rfl:v2=L:=NP (e2.symm.trans g2);have J:Ext Q O Q (upd O p (.tup [v1,v2])):=fU hp;exact⟨J,iJ rep2 hp,.tup a8 (.cons (A.later rep2 J) (.cons (w.later rep2 J) .nil))⟩
 ·have s:min xs.length ys.length<=i:=by simpa using hlen
  refine⟨?_,R,T⟩;rcases Nat.le_total xs.length ys.length with z|z
  ·exact .inl (by omega)
  ·exact .inr (by omega)
end S4
namespace S3
open PySem PySem.Spec PyProof.Rows L2 S4
abbrev mV(i:Nat):TM:=λρ=>HW ρ i
abbrev mK(d:D):TM:=λ_=>a_ d
abbrev pU(m n:TM):TM:=λρ=>do let x<-m ρ;let c<-kQ x;if c=cn then n ρ else a_ (.bl dt)
abbrev FK(m:TM):TM:=λρ=>do let x<-m ρ;let c<-kQ x;a_ (.bl (!c))
abbrev Na(t:aF->M Bool)(m n:TM):TM:=λρ=>do let k<-t ρ;if k=cn then m ρ else n ρ
abbrev E7:=aF->M (List D)
abbrev ao:E7:=λ_=>a_ []
abbrev aa(m:TM)(ms:E7):E7:=λρ=>do let x<-m ρ;let xs<-ms ρ;a_ (x::xs)
abbrev dq(ms:E7):TM:=λρ=>do let ds<-ms ρ;bP ds
abbrev bp(ms:E7):TM:=λρ=>do let ds<-ms ρ;bx ds
abbrev au(F:List D->M D)(ms:E7):TM:=λρ=>do let ds<-ms ρ;F ds
abbrev de(F:List D->M D)(m:TM):TM:=au F (aa m ao)
abbrev aW(f:D->D->M D)(m n:TM):TM:=λρ=>do let x<-m ρ;let y<-n ρ;f x y
abbrev IE(f g:D->D->M D)(m n l:TM):TM:=λρ=>do let x<-m ρ;let y<-n ρ;let z<-f x y;let k<-kQ z;if k=cn then do let w<-l ρ;g y w else a_ (.bl dt)
abbrev My:=aF->M (Option Int)
abbrev oN:My:=λ_=>a_ none
abbrev oS(m:TM):My:=λρ=>do let x<-m ρ;let i<-MS x;a_ (ar i)
abbrev Bv(m:TM)(lo hi:My):TM:=λρ=>do let x<-m ρ;let i<-lo ρ;let j<-hi ρ;uM x i j
abbrev iq(m:TM)(T:String):TM:=λρ=>do let x<-m ρ;C7 (λt=>jm t T) x
abbrev KJ(m:TM)(T U:String):TM:=λρ=>do let x<-m ρ;C7 (λt=>jm t T||jm t U) x
abbrev wC(f:D->List D->M D)(m n:TM):TM:=λρ=>do let x<-m ρ;Ih x;let ds<-(do let y<-n ρ;let ys<-a_ [];a_ (y::ys));f x ds
abbrev bj(mi:aF->M Iter)(g:mw)(t:aF->M Bool)(m:TM)(js:List (Option Nat)):TM:=λρ=>do let it<-mi ρ;let ys<-eV it g t m (fS js ρ);bx ys
abbrev gz:=aF->M Bool
abbrev bV(m:TM):gz:=λρ=>do let x<-m ρ;kQ x
abbrev eS(f:D->D->M D)(m n:TM):gz:=λρ=>do let z<-(do let x<-m ρ;let y<-n ρ;f x y);kQ z
abbrev yE(f g:D->D->M D)(m n l:TM):gz:=λρ=>do let v<-(do let x<-m ρ;let y<-n ρ;let z<-f x y;let k<-kQ z;if k=cn then do let w<-l ρ;g y w else a_ (.bl dt));kQ v
abbrev eA(t:gz):gz:=λρ=>do let c<-t ρ;a_ (!c)
abbrev nV(t u:gz):gz:=λρ=>do let c<-t ρ;if c=cn then u ρ else a_ dt
abbrev xQ(t u:gz):gz:=λρ=>do let c<-t ρ;if c=cn then a_ cn else u ρ
abbrev kJ:gz:=λ_=>a_ cn
abbrev lX(m:TM):aF->M Iter:=λρ=>do let ds<-aa m ao ρ;mW ds
abbrev Cg(m n:TM):aF->M Iter:=λρ=>do let ds<-aa m (aa n ao) ρ;lS ds
abbrev bX(m:TM):aF->M Iter:=λρ=>do let x<-m ρ;KC x
abbrev gN(i:Nat):mw:=λd ρ=>a_ (ρ.set i (ar d))
abbrev LD(m n:TM):mw:=λd ρ=>do let x<-m ρ;let y<-n ρ;la x y d;a_ ρ
abbrev d4:cw:=λρ=>a_ (.nx ρ)
abbrev aJ(m n:cw):cw:=λρ=>do let o<-m ρ;yj o n
abbrev sW(me:TM):cw:=λρ=>do let _<-me ρ;a_ (.nx ρ)
abbrev bF(me:TM):cw:=λρ=>do let d<-me ρ;a_ (.ret d)
abbrev jQ(t:gz)(m n:cw):cw:=λρ=>do let c<-t ρ;if c=cn then m ρ else n ρ
abbrev bC(i:Nat)(me:TM):cw:=λρ=>do let d<-me ρ;a_ (.nx (ρ.set i (ar d)))
abbrev pV(me:TM)(g:mw):cw:=λρ=>do let d<-me ρ;let ρ'<-g d ρ;a_ (.nx ρ')
abbrev IF(i j:Nat)(ms:E7):cw:=λρ=>do let ds<-ms ρ;match ds with|[d1,d2]=>a_ (.nx ((ρ.set i (ar d1)).set j (ar d2)))|_=>M.fail
abbrev ir(mi:aF->M Iter)(g:mw)(b:cw):cw:=λρ=>do let it<-mi ρ;dC it g b it.items ρ
abbrev IG(k:Nat)(t:gz)(b:cw):cw:=λρ=>lb t b k ρ
structure DefIs(P:eb)(w:eK)(K:c_)(mg:Str->Option aC)(base:f')(k:Nat)(x:Str)(ps:List Str)(F:List D->M D):Prop where
 ex:∃f fd,FnOk P w K mg base M6 k f fd ps (M8 K F)/\mg x=ar (.ref f)/\z3 K (.ref f)=cn/\Binds K fd ps []
section
variable {X:Cx}{E:XD}{e:Expr}{es:List Expr}{pos:Pos}{ms:E7}
theorem aG{c j p}:dV (.Constant c j p::es) env=(dt,hO (.Constant c j p) env)::dV es env:=rfl
theorem bI{l k p}:dV (.Tuple l k p::es) env=(dt,hO (.Tuple l k p) env)::dV es env:=rfl
theorem qk{l p}:dV (.List l p::es) env=(dt,hO (.List l p) env)::dV es env:=rfl
theorem ag{x p}:dV (.Name x p::es) env=(dt,hO (.Name x p) env)::dV es env:=rfl
theorem aV{f l k p}:dV (.Call f l k p::es) env=(dt,hO (.Call f l k p) env)::dV es env:=rfl
theorem lh{a o b p}:dV (.BinOp a o b p::es) env=(dt,hO (.BinOp a o b p) env)::dV es env:=rfl
theorem aY{a b p}:dV (.Subscript a b p::es) env=(dt,hO (.Subscript a b p) env)::dV es env:=rfl
theorem FL{a b p}:dV (.Dict a b p::es) env=(dt,hO (.Dict a b p) env)::dV es env:=rfl
theorem yF{a b p}:dV (.UnaryOp a b p::es) env=(dt,hO (.UnaryOp a b p) env)::dV es env:=rfl
theorem Dt{j p}:SE X E (.UnaryOp .USub (.Constant (.int i) j p) pos) (mK (.int (-i))):=by refine PE.imp (Kf HI Ck) λσ H Q h=>?_;obtain⟨ι,S,ρ,rep,re,c⟩:=h;exact⟨i,rfl,aq c .refl rep _ (.int _)⟩
theorem wD(Y:Gl X x)(Z:∃t,X.mg x=ar (.int i t))(W:(x==("__debug__":Str))=false:=by decide):SE X E (.Name x pos) (mK (.int i)):=
 let ⟨_,h⟩:=Z
 Fw Y h W
def KL(fs:Scope)(N:List Str)(scope:Scope)(Nc:List Str)(js:List (Option Nat)):Bool:=
 (scope.kind== .function) && scope.names.all (λy=>y.2 != .cell||scope.names.lookup y.1==ar .cell) && scope.names.all (λy=>y.2 != .local||scope.names.lookup y.1==ar .local) &&
  scope.names.all (λy=>y.2 != .free||(fs.names.lookup y.1==ar .cell||fs.names.lookup y.1==ar .free)) && (js.length==Nc.length) &&
  (Nc.zip js).all (λp=>match p.2 with|none=>cn|some j=>N[j]? ==ar p.1 && scope.names.lookup p.1==ar .free)
theorem iu(Y:Scope)(N:List Str)(L:∀x,X.env.kindOf x=Y.names.lookup x)(P:X.N=N)(h:KL Y N scope Nc js=cn):CompScope X scope Nc js:=by
 unfold KL at h;simp only[k',A2,beq_iff_eq,bne_iff_ne,y2]at h;obtain⟨⟨⟨⟨⟨T,R⟩,U⟩,O⟩,S⟩,Q⟩:=h;refine⟨T,λy Z e=>(R y Z).resolve_left λz=>z e,λy Z e=>(U y Z).resolve_left λz=>z e,λy Z e=>?_,S,λi x j e1 e2=>?_⟩
 ·rw[L];exact(O y Z).resolve_left λz=>z e
 ·have W:(Nc.zip js)[i]? =ar (x,ar j):=PY.mpr ⟨e1,e2⟩;have:=Q _ (N4 W);simp only[k',beq_iff_eq]at this;rw[P];exact this
theorem gp(Z:Room k A):A.units+64<cLine:=by have:=Z.un;omega
theorem Nb(Z:Room k A):A.units+8<cLine:=by have:=Z.un;omega
theorem FM(Z:Room k A):A.units<cLine:=by have:=Z.un;omega
end
section
variable {P:eb}{w:eK}{K:c_}{mg:Str->Option aC}{base:f'}
end
def runs{α:Type}(c:M α)(S:az)(Q:α->az->Prop):Prop:=∃a S',c S=ar (.ok a,S')/\Q a S'
section
variable {α β:Type}{c:M α}{f:α->M β}{S:az}{Q Q':α->az->Prop}{R:β->az->Prop}
theorem u9(h:c S=ar (.ok a,S1)):runs c S Q↔Q a S1:=by
 constructor
 ·rintro⟨a',S',e,q⟩;rw[h]at e;cases e;exact q
 ·exact λq=>⟨a,S1,h,q⟩
theorem FN(h:c S=none):runs c S Q↔False:=by
 constructor
 ·rintro⟨a',S',e,q⟩;rw[h]at e;cases e
 ·exact λq=>q.elim
theorem Bw(h:runs c S Q)(k:∀a S',Q a S'->Q' a S'):runs c S Q':=let ⟨a,S',e,q⟩:=h;⟨a,S',e,k a S' q⟩
end
section
variable {S:az}{Q:D->az->Prop}
theorem Bx:runs (bx ds) S Q↔ds.length<=lim/\Q (.lst S.length) (S++[ds]):=by
 by_cases h:ds.length<=lim
 ·rw[u9 (by unfold bx;rw[if_pos h])];simp[h]
 ·rw[FN (by unfold bx;rw[if_neg h])];simp[h]
theorem lY{f:p4->p4->Bool}(Z:gw S 60 a=ar p)(Y:gw S 60 b=ar q):runs (Ia f a b) S Q↔Q (.bl (f p q)) S:=by rw[u9 (by unfold Ia;rw[Z,Y])]
theorem qm(Y:gw S 60 a=ar p)(X:gw S 60 b=ar q)(Z:Mu f p q=ar r):runs (JR f a b) S Q↔Q (.bl r) S:=by rw[u9 (by unfold JR;rw[Y,X];simp only[Z];rfl)]
end
end S3
namespace S7
open PySem PySem.Spec PySem.W PyProof.Rows
section
variable {prog:eb}{w:eK}{A:gg}{E:aC->b_->Prop}{s:b_}{K:Uk}{x C:bc}{ox:Obj}{od:Option Obj}{name:Str}
theorem z9:Slot "BaseException" "__getattribute__" "BaseException.__getattribute__":=
 .of (owner:="BaseException") (n:="__getattribute__") (by rw[RB,QB];kernel_rfl) (by decide+kernel) (by decide+kernel) (by decide+kernel)
  (by first|exact .inl (by decide+kernel)|exact .inr (by decide+kernel)) (by rw[Qw];kernel_rfl)
theorem Du{M:S9}{Z:aC}{Q:Unit->b_->Prop}(X:K.In s.heap)(I:Rn s.heap x ox C od)(S:TC K C (.type "BaseException")=ar cn)(h:Q () s):
  ed M A (RN "BaseException.__getattribute__" ⟨[.ref x,Z],[]⟩) Q E s:=by
 have P:builtinKind "BaseException.__getattribute__"=ar .slot:=by decide+kernel
 have Y:splitId "BaseException.__getattribute__"=ar ("BaseException","__getattribute__"):=by decide+kernel
 have T:=I.type (M:=M);have L1:=looks_mroIn (M:=M) X S;have O:=F.args_bexc_ga (.ref x) Z;obtain⟨R,g,d,t,os⟩:=s;have U:Looks M R (isInstance (.ref x) (.type "BaseException")) true:=T.andThen L1;simp only[RN,P,Y];refine Nk (U.at ?_)
 repeat (first|wp_step)
 exact h
theorem IH{Y Z:Bool}{O:Tok}{Q:aC->b_->Prop}(X:K.In s.heap)(I:Rn s.heap x ox C od)(U:G_ K (.ref C) "__getattribute__"=ar (ar (.builtin "BaseException.__getattribute__")))
  (S:G_ K (.ref C) "__getattr__"=ar none) (L:TC K C (.type "BaseException")=ar cn)
  (h:ed (fb prog w) A.in1 (Builtin.«object.__getattribute__» ⟨[.ref x,.str name O],[]⟩)
   (λfin s'=>match fin with| .done (.ret v)=>ed (fb prog w) A (handedOut v) Q E s'|_=>False) (λ_ _=>False) s):
  ed (fb prog w) A (getAttrBy (.ref x) (.str name O) Y Z) Q E s:=by
 obtain⟨J,g,d,t,os⟩:=s;have N:=I.type (M:=fb prog w);have L1:=looks_findIn (M:=fb prog w) X U;have L2:=looks_findIn (M:=fb prog w) X S;have T:(Z && TF (D_ "BaseException.__getattribute__"))=false:=by cases Z<;>rfl
 have P:(D_ "BaseException.__getattribute__"==D_ "object.__getattribute__")=false:=by decide+kernel
 have R:(TF (ee C) && D_ "BaseException.__getattribute__"==D_ "object.__getattribute__")=false:=by rw[P,RI]
 unfold getAttrBy;refine Oi (Nk (N.at (Nk (L1.at ?_))));dsimp only;rw[R];simp only[e_,if_false];unfold getAttrByItsOwn hookBefore;rw[if_pos (show TF (ee C)=cn from rfl)];refine Nk (L2.at ?_);unfold callGetattribute;rw[T];simp only[e_,if_false];refine Nk (PR (Oi ?_));unfold boundAndCalled;rw[z9.bind];refine Nk (Nr ?_);refine Q8 (codeAny_call_builtin z9.plain F.entry_bexc_ga (Du X I L (Oc h (λfin s' z=>?_) λ_ _ z=>z.elim)));rcases fin with(_|_|_|_)|_<;>first|exact z|exact z.elim
theorem rJ{g a:aC}{Y:Tok}{P:aC->b_->Prop}(X:K.In s.heap)(I:Rn s.heap x ox C od)(Z:Uh K C od name=ar (.bind g a))
  (h:ed (fb prog w) A (call g [a,.ref x,.ref C]) P E s):
  ed (fb prog w) A (Builtin.«object.__getattribute__» ⟨[.ref x,.str name Y],[]⟩) (λfin s'=>match fin with| .done (.ret v)=>P v s'|_=>False) E s:=by
 obtain⟨S,T,d,t,os⟩:=s;have U:=I.type (M:=fb prog w);have L1:=looks_find (M:=fb prog w) X I Z;refine Nk (Nr (Nk (Nr (Nk (U.at (Nk (L1.at ?_)))))));show ed _ _ (y' [a] (call g [a,.ref x,.ref C])>>=ret) _ _ _;exact Nk (Oi (Oc h (λv s' z=>Nr z) λ_ _ z=>z))
structure ExcC(K:Uk)(C:bc):Prop where
 ga:G_ K (.ref C) "__getattribute__"=ar (ar (.builtin "BaseException.__getattribute__"))
 gt:G_ K (.ref C) "__getattr__"=ar none
 be:TC K C (.type "BaseException")=ar cn
 ob:TC K C (.type "object")=ar cn
 cl:G_ K (.ref C) "__class__"=ar (ar (.builtin "object.__class__"))
 gs:specialIn K (.builtin "object.__class__") "__get__"=ar (ar (.builtin "getset_descriptor.__get__"))
 tk:takesIn K (.builtin "object.__class__")=ar cn
 cd:(Ui K C).isSome=cn
 mf:G_ K (.ref C) "many"=ar none
 ms:G_ K (.ref C) "most"=ar none
def Dv(K:Uk)(C:bc):Bool:=(G_ K (.ref C) "__getattribute__"==ar (ar (.builtin "BaseException.__getattribute__"))) && (G_ K (.ref C) "__getattr__"==ar none) && (TC K C (.type "BaseException")==ar cn) &&
 (TC K C (.type "object")==ar cn) && (G_ K (.ref C) "__class__"==ar (ar (.builtin "object.__class__"))) && (specialIn K (.builtin "object.__class__") "__get__"==ar (ar (.builtin "getset_descriptor.__get__"))) &&
 (takesIn K (.builtin "object.__class__")==ar cn) && (Ui K C).isSome && (G_ K (.ref C) "many"==ar none) && (G_ K (.ref C) "most"==ar none)
theorem ExcC.of(h:Dv K C=cn):ExcC K C:=by unfold Dv at h;simp only[k',beq_iff_eq]at h;obtain⟨⟨⟨⟨⟨⟨⟨⟨⟨P,X⟩,Q⟩,S⟩,Y⟩,T⟩,W⟩,U⟩,R⟩,Z⟩:=h;exact⟨P,X,Q,S,Y,T,W,U,R,Z⟩
theorem By{Q:Option aC->b_->Prop}(c:ExcC K C)(X:K.In s.heap)(I:Rn s.heap x ox C od)(h:Q (ar (.ref C)) {s with toks:=s.toks+1}):ed (fb prog w) A (getAttr? (.ref x) "__class__") Q E s:=by
 have hf:Uh K C od "__class__"=ar (.bind (.builtin "getset_descriptor.__get__") (.builtin "object.__class__")):=by obtain⟨cd,Z⟩:=OX.mp c.cd;unfold Uh;rw[Z,Pu,c.cl,Pu];simp[c.gs,c.tk]
 unfold getAttr? getAttrBy?;refine Nk (wpAny_mkText (Nk (PR (IH (s:={s with toks:=s.toks+1}) X I c.ga c.gt c.be ?_))));refine rJ (s:={s with toks:=s.toks+1}) X I hf ?_;exact Q8 (class_get (s:={s with toks:=s.toks+1}) (ox:=ox) (od:=od) X I c.ob (handed_on rfl (Nr h)))
theorem Dw(c:ExcC K C):KitX K (.ref x) (.ref C) (λh=>∃ox od,Rn h x ox C od) where
 ty:=λ_ _ _ ⟨_,_,I⟩=>I.type
 it:=λ_ _ X _=>by
  have Z:=c.cd;unfold Ui at Z;split at Z
  ·rename_i c' d' cd' sl' ho
   intro R S T s' k q;unfold isType loadHead;exact Nk (wpAny_loadPart (k _ _ (X _ _ ho)) (Nr q))
  ·cases Z
 ne:=λh tp dd its n U X Y=>by
  have Z:=c.cd;refine Rj.mpr λq=>?_;have e:C=tp:=Value.ref.inj (P9.mp q);subst e;unfold Ui at Z;split at Z
  ·rename_i c' d' cd' sl' ho
   have z:=(X _ _ ho).symm.trans Y;cases z
  ·cases Z
 ca:=λX ⟨_,_,I⟩ k=>By c X I k
end
end S7
namespace S7
open PySem PySem.Spec PyProof.Rows L2 S3
def Dx(e T C:bc)(od:Option bc)(fl:aC)(h:f'):Prop:=
 ∃oe vs oT ts,h.get? e=ar oe/\oe.cls= .ref C/\oe.dict=od/\oe.data= .fields vs/\vs[1]? =ar (.ref T)/\T≠e/\h.get? T=ar oT/\oT.data= .fields ts/\ts[3]? =ar fl
structure Step(fs:List bc)(e T:bc)(h h':f'):Prop where
 keep:∀b o,h.get? b=ar o->b≠e->b≠T->b∉fs->h'.get? b=ar o
 slot:∀b o,h.get? b=ar o->b≠e->b≠T->∃sl,h'.get? b=ar {o with slots:=sl}
 size:h.objs.size<=h'.objs.size
section
variable {M:S9}{A:gg}{E:aC->b_->Prop}{s:b_}{base:f'}{env:Env}{outer:List Env}{L e T C:bc}{od:Option bc}{fl:aC}{Q:Unit->b_->Prop}
theorem rK(o:Obj)(f:Array aC->Array aC):(C_ f o).dict=o.dict:=by obtain⟨c,d,Z,Y⟩:=o;cases Z<;>rfl
theorem entry(H:A.frames=ar (env::outer))(F:s.heap.FunFrames base (env::outer))(B:env.frame=ar L)
  (G:s.heap.get? e=ar oe) (x:oe.cls= .ref C) (z:oe.dict=od) (K:oe.data= .fields vs) (P:1<vs.size)
  (h:∀h' T',Dx e T' C od (n0 L) h'->s.heap.objs.size<=T'->Step (kP (env::outer)) e e s.heap h'->Q () {s with heap:=h'}):
  ed M A (do let a<-frameOf env;let N<-entryPlaceOf L hadNext;let b<-EntryCells.newEntry head a .none (n0 L) .none N;setField (.ref e) 1 b) Q E s:=by
 have W:e∉kP (env::outer):=λhm=>by obtain⟨_,o,q,I⟩:=F.mem hm;rw[G]at q;cases q;exact I vs K
 refine Nk (wpAny_frameOf_fun H F B λY Z=>Nk (wpAny_entryPlaceOf λN R=>?_));unfold EntryCells.newEntry newFields;refine Nk (Od (?_ :ed _ _ _ _ _ _) (R.sizeOk5 _ _ _ _ _));have U:Y.get? e=ar oe:=(Z.2.1 e W).trans G;have O:=Nm (h:=Y) {cls:=.type "traceback",dict:=none,data:=.fields ([head,.ref L,.none,n0 L,.none]++(if N.isEmpty then ey 6 h_ else N)).toArray} U;have S:Y.objs.size≠e:=O2 (Nu U);have X:=OY K (·.setIfInBounds 1 (ee Y.objs.size));refine Py O K P (h _ Y.objs.size ⟨_,_,_,_,Ox _ O (PQ X),?_,?_,X,by simp[P],S,(N9 _ _ (k_ S)).trans (Nw Y rfl),rfl,?_⟩ (P8 Z.1.symm) ⟨λb o q J _ w=>?_,λb o q J _=>?_,?_⟩)
 ·rw[Rl];exact x
 ·rw[rK];exact z
 ·first|(simp;done)|(rcases R with rfl|⟨_,_,_,_,_,_,_,rfl⟩<;>simp)
 ·rw[N9 _ _ (k_ J)];exact Nm _ ((Z.2.1 b w).trans q)
 ·obtain⟨y,v⟩:=Z.2.2 b o q;exact⟨y,by rw[N9 _ _ (k_ J)];exact Nm _ v⟩
 ·rw[Pz,OB,Z.1];exact P3 _
theorem yG(Z:A.frames=ar (env::outer))(P:s.heap.FunFrames base (env::outer))(Y:env.frame=ar L)
  (X:s.heap.get? e=ar oe) (R:oe.cls= .ref C) (S:oe.dict=od) (W:oe.data= .fields vs) (U:vs[1]? =ar .none)
  (h:∀h' T',Dx e T' C od (n0 L) h'->s.heap.objs.size<=T'->Step (kP (env::outer)) e e s.heap h'->Q () {s with heap:=h'}):ed M A (J_ (.ref e) env) Q E s:=by
 unfold J_;simp only[Y];refine Nk (Ow X W U ?_);rw[if_neg (by decide)];exact entry Z P Y X R S W (NQ.mp U).1 h
theorem t4(N:A.frames=ar (env::outer))(x:s.heap.FunFrames base (env::outer))(K:env.frame=ar L)(F:Dx e T C od .none s.heap)
  (h:∀h' X,Dx e X C od (n0 L) h'->s.heap.objs.size<=X->Step (kP (env::outer)) e T s.heap h'->Q () {s with heap:=h'}):ed M A (J_ (.ref e) env) Q E s:=by
 obtain⟨t,vs,u,I,he,y,G,hd,H,U,S,Z,J⟩:=F;have O:3<I.size:=(NQ.mp J).1;unfold J_;simp only[K];refine Nk (Ow he hd H ?_);rw[if_pos (show(ee T !=h_)=cn from by simp)];refine Nk (Ow S Z J ?_);rw[if_neg (show ¬ ((h_==n0 L)=cn)from by simp[n0])];refine Nk (Py S Z O ?_);have other:∀b,b≠T->(s.heap.update T (C_ (·.setIfInBounds 3 h_))).get? b=s.heap.get? b:=λb B=>N9 _ _ (k_ B);have R:(s.heap.update T (C_ (·.setIfInBounds 3 h_))).FunFrames base (env::outer):=x.of_keeps λb o q P=>⟨o,(other b λz=>by rw[z,S]at q;cases q;exact P I Z).trans q,rfl⟩;refine entry (s:={s with heap:=s.heap.update T (C_ (·.setIfInBounds 3 h_))}) N R K ((other e (k_ U)).trans he) y G hd (NQ.mp H).1 λh' X w l st=>h h' X w ?_ ⟨λb o q Y W v=>st.keep b o ((other b W).trans q) Y Y v,λb o q Y W=>st.slot b o ((other b W).trans q) Y Y,?_⟩
 ·have:=l;rwa [Pz]at this
 ·have:=st.size;rwa [Pz]at this
theorem jt(F:Dx e T C od fl s.heap)(h:∀h',Dx e T C od .none h'->Step [] e T s.heap h'->Q () {s with heap:=h'}):ed M A (setFlight (.ref e) none) Q E s:=by
 obtain⟨J,vs,I,O,he,P,R,hd,U,Y,S,Z,N⟩:=F;have X:3<O.size:=(NQ.mp N).1;refine wpAny_setFlight_none he hd U S Z X (h _ ⟨J,vs,_,_,(N9 _ _ Y).trans he,P,R,hd,U,Y,Ox _ S (PQ (OY Z _)),OY Z _,by simp[X]⟩
  ⟨λb o q K W _=>(N9 _ _ (k_ W)).trans q,λb o q K W=>⟨o.slots,(N9 _ _ (k_ W)).trans q⟩,?_⟩)
 rw[Pz];exact Nq _
theorem wF(U:A.frames=ar (env::outer))(z:s.heap.FunFrames base (env::outer))(S:env.frame=ar L)
  (G:s.heap.get? e=ar oe) (O:oe.cls= .ref C) (R:oe.dict=od) (N:oe.data= .fields vs) (J:vs[1]? =ar .none)
  (h:∀h' X,Dx e X C od .none h'->s.heap.objs.size<=X->Step (kP (env::outer)) e e s.heap h'->Q () {s with heap:=h'}):ed M A (R_ env (.ref e)) Q E s:=by
 unfold R_;refine Nk (yG U z S G O R N J λh' X F l st=>jt (s:={s with heap:=h'}) F λW H Y=>h W X H l ⟨λb o q Z I K=>?_,λb o q Z I=>?_,Nv st.size Y.size⟩)
 ·exact Y.keep b o (st.keep b o q Z Z K) Z (NB (NC (Nu q) l)) (by simp)
 ·obtain⟨P,B⟩:=st.slot b o q Z Z;exact⟨P,Y.keep b _ B Z (NB (NC (Nu q) l)) (by simp)⟩
theorem yH(S:A.frames=ar (env::outer))(K:s.heap.FunFrames base (env::outer))(R:env.frame=ar L)(F:Dx e T C od .none s.heap)
  (h:∀h' X,Dx e X C od .none h'->s.heap.objs.size<=X->Step (kP (env::outer)) e T s.heap h'->Q () {s with heap:=h'}):ed M A (R_ env (.ref e)) Q E s:=by
 unfold R_;refine Nk (t4 S K R F λh' X F l st=>jt (s:={s with heap:=h'}) F λU N Z=>h U X N l ⟨λb o q Y W O=>?_,λb o q Y W=>?_,Nv st.size Z.size⟩)
 ·exact Z.keep b o (st.keep b o q Y W O) Y (NB (NC (Nu q) l)) (by simp)
 ·obtain⟨P,J⟩:=st.slot b o q Y W;exact⟨P,Z.keep b _ J Y (NB (NC (Nu q) l)) (by simp)⟩
end
def om(P:eb)(w:eK):Cd:=λouter H s E x s'=>
 ∃(e T C:bc) (od:Option bc) (H':Hp),x= .ref e/\s'.os=s.os/\B' s'.gens/\Un (kP outer) [] H H' s.heap s'.heap/\iG P w H' s'.heap/\Dx e T C od .none s'.heap/\
  H' e=none/\H' T=none/\s.heap.get? e=none/\s.heap.get? T=none/\E (.ref C) od H'
theorem Bz{X:Cx}:qK (om X.prog X.w) X E0:=λ_ _ _ _ _ _ _ ⟨_,_,_,_,_,_,_,_,_,_,_,_,_,_,_,h⟩=>h.elim
theorem ju{h:f'}(q:h.get? b=ar o)(n:h.get? e=none):b≠e:=λz=>by rw[z,n]at q;cases q
theorem Un.fly(u:Un fs [] H H' h h1)(U:Step fs e T h1 h2)(S:h.get? e=none)(W:h.get? T=none):Un fs [] H H' h h2 where
 keep:=λb o q n hf Y=>U.keep b o (u.keep b o q n hf Y) (ju q S) (ju q W) hf
 slot:=λb o q n hf Y=>by obtain⟨Q,X⟩:=u.slot b o q n hf Y;obtain⟨Z,R⟩:=U.slot b _ X (ju q S) (ju q W);exact⟨Z,R⟩
 free:=u.free
 there:=λb o q Y=>by obtain⟨P,X⟩:=u.there b o q Y;obtain⟨Z,R⟩:=U.slot b _ X (ju q S) (ju q W);exact⟨_,R⟩
 tups:=u.tups
 frzs:=u.frzs
 tbls:=u.tbls
theorem iG.fly{H:Hp}(W:iG P w H h1)(U:Step fs e T h1 h2)(S:H e=none)(Y:H T=none)(X:∀b∈fs,H b=none):iG P w H h2:=λa o q=>by
 have k:∀b u,H b≠none->h1.get? b=ar u->h2.get? b=ar u:=λb u n q=>U.keep b u q (λz=>n (by rw[z];exact S)) (λz=>n (by rw[z];exact Y)) λz=>n (X b z);refine(W a o q).stay (λb u Z=>k b u ?_) (λ_ z=>z) λ_ _ z=>z;rcases Z with rfl|Z
 ·rw[q];simp
 ·rw[Z];simp
section
theorem wH(l:List Env)(x:bc)(env:Env)(h:env.frame=ar x):kP (env::l)=x::kP l:=by unfold kP;rw[Oh,h]
theorem bB.there(x:bB P w H h a o):∃Z,h.get? a=ar Z:=by
 cases o with
 |lst xs=>obtain⟨_,_,_,_,e⟩:=x;exact⟨_,e⟩
 |tup xs=>obtain⟨_,_,_,Z,e,_⟩:=x;exact⟨_,e⟩
 |dK kvs=>obtain⟨_,_,_,_,o,_,_,e,_⟩:=x;exact⟨_,e⟩
 |dT kvs=>obtain⟨_,_,_,_,o,_,_,e,_⟩:=x;exact⟨_,e⟩
 |set S n=>obtain⟨o,_,_,_,e,_⟩:=x;exact⟨_,e⟩
 |ins C dx fs=>obtain⟨_,_,_,e,_⟩:=x;exact⟨_,e⟩
 |own y=>exact x
 |xd fs=>obtain⟨_,⟨_,_,_,e,_⟩,_⟩:=x;exact⟨_,e⟩
 |rng lo hi=>obtain⟨_,_,_,e⟩:=x;exact⟨_,e⟩
 |frz Z u=>obtain⟨e,_⟩:=x;exact⟨_,e⟩
 |tbl ps=>exact⟨_,(show h.get? a=ar _ from x)⟩
 |met f y=>exact⟨_,(show h.get? a=ar _ from x)⟩
 |ext φ=>exact x.2.1
theorem iG.gone{H:Hp}(x:iG P w H h)(e:h.get? a=none):H a=none:=by
 cases q:H a with
 |none=>rfl
 |some o=>
  obtain⟨Z,e2⟩:=bB.there (x a o q);rw[e]at e2;cases e2
theorem Un.gone(u:Un fs ex H H' h h')(Z:a∉ex)(e:h'.get? a=none):h.get? a=none:=by
 cases q:h.get? a with
 |none=>rfl
 |some o=>
  obtain⟨Y,e2⟩:=u.there a o q Z;rw[e]at e2;cases e2
end
abbrev Cx.hand(X:Cx)(e:aC):Cx:={X with A:=X.A.mark (ar e),calm:=dt,xe:=λ_ _=>False}
section
variable {X:Cx}{pins:List (bc×Obj)}{σ:L2.St}{H H':Hp}{s:b_}{x:aC}
theorem Inv.hand(I:Inv X pins σ H s)(e:aC):Inv (Cx.hand X e) pins σ H s:=
 ⟨⟨I.ok.mod,I.ok.kind,I.ok.glob,I.ok.blt,I.ok.above,I.ok.inj,I.ok.has,I.ok.cab,(λz=>Bool.noConfusion z),I.ok.frames,I.ok.stk,I.ok.exf,I.ok.bs,I.ok.bsz,I.ok.noex,I.ok.exfs,I.ok.funs,I.ok.frf⟩,
  I.os,I.bare,I.base,I.loc,I.cell,I.free,I.freeC,I.pin,I.hok,I.len⟩
theorem Inv.unhand(Z:X.Ok)(I:Inv (Cx.hand X x) pins σ H s):Inv X pins σ H s:=⟨Z,I.os,I.bare,I.base,I.loc,I.cell,I.free,I.freeC,I.pin,I.hok,I.len⟩
theorem Inv.local{Z:L2.St}(I:Inv X pins σ H s)(hs:s_ X.env.locals s.heap h')(P:h'.Ns X.env.locals m')(W:Z.length=X.N.length)
  (O:∀(i:Nat) (y:Str) (v:V),X.N[i]? =ar y->Z[i]? =ar (ar v)->GT X.env.scope y->∃u,RelV v u/\Look X.env h' m' y u):Inv X pins Z H {s with heap:=h',toks:=t'}:=by
 have ne:∀b o,X.s₀.heap.get? b=ar o->b≠X.env.locals:=λb o e=>NB (NC (Nu e) I.ok.above);refine⟨I.ok,I.os,I.bare,⟨λb o e n T U=>(hs.2 b (ne b o e)).trans (I.base.keep b o e n T U),λb o e n T U=>?_,I.base.free,λb o e U=>?_,I.base.tups,I.base.frzs,I.base.tbls⟩,⟨m',P,O⟩,λy c e=>?_,I.free,I.freeC,λp R=>?_,λa o e=>?_,W⟩
 ·obtain⟨S,e1⟩:=I.base.slot b o e n T U;exact⟨S,(hs.2 b (ne b o e)).trans e1⟩
 ·obtain⟨Q,e1⟩:=I.base.there b o e U;exact⟨Q,(hs.2 b (ne b o e)).trans e1⟩
 ·obtain⟨v,z⟩:=I.cell y c e;exact⟨v,z.sameBut hs (I.cne y c e)⟩
 ·obtain⟨e,n,nl,r⟩:=I.pin p R;exact⟨(hs.2 p.1 nl).trans e,n,nl,r⟩
 ·refine(I.hok a o e).stay (λc L Y q=>(hs.2 c ?_).trans q) (λ_ q=>q) λ_ _ q=>q;rintro rfl;rcases Y with Y|Y
  ·subst Y;rw[I.free]at e;cases e
  ·rw[I.free]at Y;cases Y
theorem FO{M:S9}{A:gg}{E:aC->b_->Prop}{i:Nat}{y:Str}{pos:Pos}{Q:Unit->b_->Prop}(I:Inv X pins σ H s)(S:X.N.Nodup)(U:X.N[i]? =ar y)(R:X.env.scope.names.lookup y=ar .local)
  (h:∀s',Inv X pins (σ.set i none) H s'->Q () s'):ed M A (do Sn X.env y .none;unbindBehindTheSuite X.env y pos) Q E s:=by
 obtain⟨m,T,P⟩:=id I.loc;refine wpAny_nameGoes_keeps R T (by rw[I.ok.kind];rfl) λh' v Z hs=>h _ (Inv.local I hs Z (by rw[Qd];exact I.len) λj z W e1 e2 e3=>?_);have Y:j≠i:=by
  rintro rfl;by_cases hlt:j<σ.length
  ·rw[NO hlt]at e2;cases e2
  ·rw[Oy (by rw[Qd];omega)]at e2;cases e2
 rw[Ou (k_ Y)]at e2;obtain⟨u,r,q⟩:=P j z W e1 e2 e3;refine⟨u,r,?_⟩;rcases q with⟨k,e⟩|⟨k,c,e,q⟩
 ·refine .inl ⟨k,?_⟩;have:z≠y:=λe=>Y (qG S e1 (e ▸ U));simp[this,e]
 ·exact .inr ⟨k,c,e,q.sameBut hs (I.cne z c e)⟩
end
theorem Un.track{X:Hp}(u:Un fs [] H X h h')(Z:X e=none)(T:h.get? e=none):Un fs [] H (upd X e o) h h' where
 keep:=u.keep
 slot:=u.slot
 free:=λb Y q n W=>by rw[aO (ju q T)];exact u.free b Y q n W
 there:=u.there
 tups:=λb xs q=>by have:=u.tups b xs q;rw[aO (aM this Z)];exact this
 frzs:=λb Y x q=>by have:=u.frzs b Y x q;rw[aO (aM this Z)];exact this
 tbls:=λb U q=>by obtain⟨more,this⟩:=u.tbls b U q;exact⟨more,by rw[aO (aM this Z)];exact this⟩
theorem iG.track{H:Hp}(X:iG P w H h)(Y:H e=none)(Z:bB P w (upd H e o) h e o):iG P w (upd H e o) h:=λb u q=>by
 by_cases hb:b=e
 ·subst hb;rw[a8]at q;cases q;exact Z
 ·rw[aO hb]at q;exact(X b u q).stay (λc v _ q=>q) (λc q=>by rw[aO (aM q Y)];exact q) λc xs q=>by rw[aO (aM q Y)];exact q
theorem FP(F:Dx e T C od fl h):bB P w H h e (.ext (sO C e od)):=by obtain⟨Z,vs,U,W,he,X,Y,hd,_⟩:=F;refine⟨⟨Z,vs,he,X,Y,hd⟩,⟨Z,he⟩,?_⟩;rintro h1 h2 ⟨Z,vs,he,r⟩ k;exact⟨Z,vs,k _ he,r⟩
structure LamOk(P:eb)(w:eK)(K:c_)(mg:Str->Option aC)(base:f')(k:Nat)(f:bc)(sp:Hp->VK->XK->Prop):Prop where
 fn:∃o fd,base.get? f=ar o/\o.data= .func fd
 run:∀(A:gg) (outer:List Env) (s:b_) (H:Hp) (Q:VK) (E:XK),Room k A->aF P w K mg base A outer s H->sp H Q E->t_ (fb P w) A (.call (.ref f) ⟨[],[]⟩) (CR (om P w) outer P w H s Q E) s
section
variable {X:Cx}{k i jn jy:Nat}{f CW:bc}{sp:Hp->VK->XK->Prop}{x c n y:Str}{p cpos epos np p1 p2 p3 hpos tpos:Pos}
theorem BA(E:X.stack=X.env::X.outer)(c5:X.env.frame=ar X.env.locals)(L:LamOk X.prog X.w X.K X.mg X.base k f sp)(hr:Room k X.A)(hN:X.N.Nodup)(hi:X.N[i]? =ar x)(hv:GT X.env.scope x)
  (R:X.N[jn]? =ar n) (d0:X.N[jy]? =ar y) (S:X.env.scope.names.lookup n=ar .local) (a5:X.env.scope.names.lookup y=ar .local) (hg:Gl X c) (hm:X.mg c=ar (.ref CW))
  (hd:(x==("__debug__":Str))=false:=by decide) (b4:(x==("__classdict__":Str))=false:=by decide) (c0:(c==("__debug__":Str))=false:=by decide) (d2:(n==("__debug__":Str))=false:=by decide) (a6:(n==("__classdict__":Str))=false:=by decide)
  (c2:m_ (.Call (.Name x p) [] [] cpos) none epos.line X.env=a_ false:=by rfl) (a4:m_ (.Name n p2) (ar (.Name y p1)) p3.line X.env=a_ false:=by rfl):
  PS X (.Try [.Expr (.Call (.Name x p) [] [] cpos) epos] [.ExceptHandler (ar (.Name c np)) (ar n) [.Assign [.Name y p1] (.Name n p2) p3] hpos] [] [] tpos)
   (λD σ H=>σ[i]? =ar (ar (.ref f))/\sp H (λ_ Y=>D.nx σ Y) (λcls od Y=>∃C,cls= .ref C/\T2 X.K (.ref C) (.ref CW)=ar cn/\∀e,Y e=none->D.nx (((σ.set jn (ar (.ref e))).set jy (ar (.ref e))).set jn none) (upd Y e (.ext (sO C e od))))):=by
 intro pins s σ H D I ⟨hσ,hsp⟩;refine wpAny_Try_except (PZ (RG ?_ I.quiet c2));refine PC (Oc (mM (X:=X.nox) hi hv hd b4 pins s σ H (λv Y=>v= .ref f/\Y=H) (I.wish _) ⟨_,hσ,rfl,rfl⟩) (λu s1 c6=>?_) λ_ _ z=>j_ z);obtain⟨v,Y,O,r1,ev,eH⟩:=c6;subst ev eH;obtain rfl:u=ee f:=r1;have O:=O.unwish;obtain⟨o,fd,ho,l⟩:=L.fn;refine callWith_meth0 l (O.bk f o ho) (Q8 (PK (L.run X.A X.stack s1 Y _ _ hr O.env0 hsp) λr s' U=>?_));cases r with
 | ok fl=>
  cases fl with
  |ret u=>
   obtain⟨v,H2,I2,_,q⟩:=O.after U;exact PJ (PJ ⟨σ,H2,I2,q⟩)
  |next=>exact j_ U
  |brk=>exact j_ U
  |cont=>exact j_ U
 | error ev=>
  obtain⟨e,T,C',od,Z,rfl,os,bare,un,G,F,ne,nT,le,lT,C,eC,hx,hD⟩:=U;cases eC;have I2:L2.Inv X pins σ Z s':=O.call' (ch:=[]) os un G bare (λb z=>absurd z (by simp));have b6:∀b∈kP X.stack,Z b=none:=I2.stkFree;refine t4 (base:=X.base) (outer:=X.outer) (by rw[I2.ok.frames,E]) (by rw[<-E];exact I2.stack) c5 F λh1 T1 F1 l1 J=>?_;rw[<-E]at J;have a3:Z T1=none:=G.fresh l1;refine jt (s:={s' with heap:=h1}) F1 λB F2 d=>?_;have m:s1.heap.get? T1=none:=Un.gone un (by simp) (OZ l1);have t:iG X.prog X.w Z h1:=iG.fly G J ne nT b6;have P:iG X.prog X.w Z B:=iG.fly t d ne a3 (λb z=>absurd z (by simp));have c4:Un (kP X.stack) [] Y Z s1.heap h1:=Un.fly un J le lT;have Q:∀{h a:f'} {e T:bc},Step [] e T h a->Step (kP X.stack) e T h a:=λst=>⟨λb o q n1 n2 _=>st.keep b o q n1 n2 (by simp),st.slot,st.size⟩;have j:Un (kP X.stack) [] Y Z s1.heap B:=Un.fly c4 (Q d) le m;have I3:L2.Inv X pins σ Z {s' with heap:=B}:=O.call' (s':={s' with heap:=B}) (ch:=[]) os j P bare (λb z=>absurd z (by simp));refine wpAny_handleBy_cons (codeAny_handlers_test (ny (X:=Cx.hand X (.ref e)) (Inv.hand I3 _) hg hm ?_ c0)) (by intro q;cases q);have LT:W.Looks (fb X.prog X.w) B (typeOf (.ref e)) (.ref C'):=by obtain⟨oe,vs,oT,ts,he,hc,_⟩:=F2;exact hc ▸ (W.Looks.ld he).andThen .now
  refine(W.exm_one (h:=B) I3.kIn LT hx).at ?_;refine codeAny_handlers_suite_as (jt (s:={s' with heap:=B}) F2 λh3 F3 g=>?_);have a0:iG X.prog X.w Z h3:=iG.fly P g ne a3 (λb z=>absurd z (by simp));have b3:Un (kP X.stack) [] Y Z s1.heap h3:=Un.fly j (Q g) le m;have I4:L2.Inv X pins σ (upd Z e (.ext (sO C' e od))) {s' with heap:=h3}:=
   O.call' (s':={s' with heap:=h3}) (ch:=[]) os (Un.track b3 ne le) (iG.track a0 ne (FP F3)) bare (λb z=>absurd z (by simp))
  refine jR (X:=X) I4 hN R (.inl S) (v:=.ref e) rfl (λs5 I5=>?_) (.inr S);have hl:jn<σ.length:=by rw[I.len];exact(Nt.mp R).1
  have ps:=zy (Cp (X:=Cx.hand X (.ref e)) (pos:=p3) (pos':=p1) hN d0 (.inl a5) (mM (X:=Cx.hand X (.ref e)) (pos:=p2) R (.inl S) d2 a6) a4 (.inr a5));refine Oc (ps pins s5 _ _ {nx:=λb1 H6=>b1=(σ.set jn (ar (.ref e))).set jy (ar (.ref e))/\H6=upd Z e (.ext (sO C' e od)),rt:=λ_ _=>False} (Inv.hand I5 _) ⟨.ref e,by rw[NO hl],rfl,rfl⟩) (λfl s6 U=>?_) λ_ _ z=>j_ z;cases fl with
  |next=>
   obtain⟨b1,H6,I6,e1,e2⟩:=U;subst e1 e2;exact FO (Inv.unhand I.ok I6) hN R S λs7 I7=>⟨_,_,I7,hD e ne⟩
  |ret u=>obtain⟨_,_,_,_,_,z⟩:=U;exact j_ z
  |brk=>obtain⟨_,_,_,z⟩:=U;exact j_ z
  |cont=>obtain⟨_,_,_,z⟩:=U;exact j_ z
end
structure BaseL(K:c_)(mg:Str->Option aC)(base:f'):Prop where
 bm:∃bm ob,mg "__builtins__"=ar (.ref bm)/\bm≠y4/\base.get? bm=ar ob/\ob.cls= .type "module"/\ob.dict=ar y4/\ob.data= .plain
 cd:∀x∈cu,∀c P,n7 K x=ar (c,P)->R4 base c P
def rL(K:c_):Prop:=∀x∈cu,∀y∈cu,∀c d P,n7 K x=ar (c,P)->n7 K y=ar (d,P)->x=y
theorem yI(l:List aC)(h:Tz l)(e:RM pos (l++[n0 a,n0 b,c])=ar v):RM pos l=ar v\/v=c:=by
 fun_induction Tz l with
 |case1=>
  have Z:(if a==(pos.line:Int) && b==(pos.col:Int)then ar c else none)=ar v:=e;split at Z
  ·exact .inr (NP Z).symm
  ·cases Z
 |case2 a' t b' u x rest ih=>
  simp only[List.cons_append,RM]at e⊢;split at e
  ·next hq=>rw[if_pos hq];exact .inl e
  ·next hq=>rw[if_neg hq];exact ih h e
 |case3 l h1 h2=>exact h.elim
section
variable {X:Cx}{pins:List (bc×Obj)}{σ:L2.St}{H:Hp}{s:b_}{x ql:Str}{c P:bc}{params:RL}{body:Expr}{scope:Scope}{pos:Pos}{clos:List (Str×bc)}{Q:aC->b_->Prop}{E:aC->b_->Prop}{A:gg}
theorem Dy(hx:x∈cu)(ht:n7 X.K x=ar (c,P))(L:X.env.code= .ref c)(hq:X.env.qual++"<lambda>"=ql)(a5:ql=x++".<locals>.<lambda>")(B:BaseL X.K X.mg X.base)(TI:rL X.K)(g:Tf scope X.env=a_ clos)
  (a0:defaultsOf params X.env=([],[])) (I:L2.Inv X pins σ H s) (T:TabsOk X.K H)
  (h:∀f Z Y pm H1 s1,L2.Inv X pins σ H1 s1->s.heap.objs.size<=f->s1.heap.get? f=ar (B_ "<lambda>" ql params body scope clos pm Z Y)->H1 f=none->H1 Z=ar (.ext (pR ql Z))->
   (∀a o,H a=ar o->(∀G,o≠ .tbl G)->H1 a=ar o)->(∀a,H a=none->H1 a≠none->s.heap.objs.size<=a)->TabsOk X.K H1->Q (.ref f) s1):
  ed (fb X.prog X.w) A (hO (.Lambda params body scope pos) X.env) Q E s:=by
 refine W.kla_eval a0 ?_;rw[hq];obtain⟨G,O,hT,hA⟩:=T x hx c P ht;have C:R4 s.heap c P:=(B.cd x hx c P ht).keeps I.bk;have oP:s.heap.get? P=ar (z6 G):=I.hok P _ O;have hg:s.heap.Ns gd X.mg:=I.mod.glob.keeps I.bk;have U:∀b,H b=none->b≠P:=λb n z=>by rw[z,O]at n;cases n
 have gP:gd≠P:=by obtain⟨o,es,ep,e,_⟩:=I.mod.glob;exact U _ (I.bs _ _ e).2
 have hb:s.heap.BuiltinsAt X.mg P:=by obtain⟨bm,ob,b1,b2,b3,b4,b5,b6⟩:=B.bm;refine⟨bm,ob,b1,b2,λz=>?_,U _ (I.bs _ _ b3).2,I.bk _ _ b3,b4,b5,b6⟩;obtain⟨o,es,ep,e,hd,_⟩:=I.mod.glob;rw[z,e]at b3;cases b3;rw[hd]at b6;cases b6
 cases hn:RM pos G.toList with
 |some cv=>
  obtain⟨Z,rfl,m⟩:=hA pos cv hn;rw[<-a5]at m;refine W.kla_makeFunctionHit g I.ok.glob hg L C oP hT hn hb λY h' tk hk a4=>?_;have S:∀b o,s.heap.get? b=ar o->(h'.push {cls:=.type "function",data:=.func (T3 "<lambda>" ql params body scope clos ((X.mg "__name__").getD .none) (.ref Z) Y)}).get? b=ar o:=λb o e=>Nm _ (hk b o e);exact h _ Z Y _ H _ (I.kept (t':=tk) S) a4 (Nw _ rfl) (I.hok.fresh a4) m (λa o e _=>e) (λa n z=>absurd n z) T
 | none=>
  refine W.kla_makeFunction g I.ok.glob hg L C oP hT hn gP hb λZ Y h' tk hX J F i c1=>?_;have nc:H Z=none:=I.hok.fresh J;have cP:P≠Z:=λz=>by rw[<-z,O]at nc;cases nc
  have S:∀b o,b≠P->s.heap.get? b=ar o->(h'.push (B_ "<lambda>" ql params body scope clos ((X.mg "__name__").getD .none) Z Y)).get? b=ar o:=λb o n e=>Nm _ (hX b o n e);have l:(h'.push (B_ "<lambda>" ql params body scope clos ((X.mg "__name__").getD .none) Z Y)).get? P=ar (z6 (G++ #[n0 pos.line,n0 pos.col,.ref Z])):=Nm _ c1;have old:∀a o,H a=ar o->a≠P->upd (upd H P (.tbl (G++ #[n0 pos.line,n0 pos.col,.ref Z]))) Z (.ext (pR ql Z)) a=ar o:=λa o e n=>by rw[aO (aM e nc),aO n];exact e
  have a3:∀b o,s.heap.get? b=ar o->b≠Z:=λb o e=>NB (NC (Nu e) J);have un:Un X.fs [] H (upd (upd H P (.tbl (G++ #[n0 pos.line,n0 pos.col,.ref Z]))) Z (.ext (pR ql Z))) s.heap (h'.push (B_ "<lambda>" ql params body scope clos ((X.mg "__name__").getD .none) Z Y)):=
   ⟨λb o e n _ _=>S b o (U b n) e,λb o e n _ _=>⟨o.slots,S b o (U b n) e⟩,λb o e n _=>by rw[aO (a3 b o e),aO (U b n)];exact n,λb o e _=>(by
    by_cases z:b=P
    ·subst z;exact⟨_,l⟩
    ·exact⟨o,S b o z e⟩),λb xs e=>old b _ e (λz=>by rw[z,O]at e;cases e),λb o u e=>old b _ e (λz=>by rw[z,O]at e;cases e),λb qs e=>(by
    by_cases z:b=P
    ·subst z;rw[O]at e;cases e;exact⟨_,by rw[aO cP,a8]⟩
    ·exact⟨#[],by rw[old b _ e z];simp⟩)⟩
  have N:pR ql Z (h'.push (B_ "<lambda>" ql params body scope clos ((X.mg "__name__").getD .none) Z Y)):=by obtain⟨v,j,vs,t,e1,e2,r⟩:=i;exact⟨v,j,vs,t,e1,Nm _ e2,r⟩
  have c5:iG X.prog X.w (upd (upd H P (.tbl (G++ #[n0 pos.line,n0 pos.col,.ref Z]))) Z (.ext (pR ql Z))) (h'.push (B_ "<lambda>" ql params body scope clos ((X.mg "__name__").getD .none) Z Y)):=by
   intro a o e;by_cases za:a=Z
   ·subst za;rw[a8]at e;cases e;refine⟨N,?_,?_⟩
    ·obtain⟨v,j,vs,t,e1,e2,_⟩:=N;cases e1;exact⟨j,e2⟩
    ·rintro h1 h2 ⟨v,j,vs,t,e1,e2,r⟩ k;cases e1;exact⟨a,j,vs,t,rfl,k _ e2,r⟩
   ·rw[aO za]at e;by_cases zP:a=P
    ·subst zP;rw[a8]at e;cases e;exact l
    ·rw[aO zP]at e;refine(I.hok a o e).stay (λb u R q=>S b u ?_ q) (λb q=>old b _ q (λz=>by rw[z,O]at q;cases q)) λb xs q=>old b _ q (λz=>by rw[z,O]at q;cases q);rintro rfl;rcases R with R|R
     ·exact zP R.symm
     ·rw[O]at R;cases R
  refine h _ Z Y _ _ _ (I.un (t':=tk) un c5) (Nv J (O1 F)) (Nw _ rfl) ?_ a8 (λa o e n=>old a o e (λz=>by rw[z,O]at e;cases e;exact n _ rfl)) (λa n z=>?_) λy hy d P' e=>?_
  ·have:H h'.objs.size=none:=I.hok.fresh (Nv J (O1 F));rw[aO (k_ (NB F)),aO (U _ this)];exact this
  ·by_cases za:a=Z
   ·rw[za];exact J
   ·rw[aO za,aO (U a n)]at z;exact absurd n z
  ·by_cases zP:P'=P
   ·subst zP;obtain rfl:y=x:=TI y hy x hx d c P' e ht;refine⟨_,by rw[aO cP,a8],?_,λp cv q=>?_⟩
    ·have:=TriplesOk_snoc pos.line pos.col (.ref Z) G.toList hT;simpa using this
    ·have q':RM p (G.toList++[n0 pos.line,n0 pos.col,.ref Z])=ar cv:=by simpa using q
     rcases yI _ hT q' with q2|q2
     ·obtain⟨v,e1,e2⟩:=hA p cv q2;exact⟨v,e1,old _ _ e2 (λz=>by rw[z,O]at e2;cases e2)⟩
     ·exact⟨Z,q2,by rw[<-a5];exact a8⟩
   ·obtain⟨qs,g1,g2,g3⟩:=T y hy d P' e;exact⟨qs,old _ _ g1 zP,g2,λp cv q=>let ⟨v,e1,e2⟩:=g3 p cv q;⟨v,e1,old _ _ e2 (λz=>by rw[z,O]at e2;cases e2)⟩⟩
end
def Mz(K:c_)(ι:List bc)(H:Hp)(x:D)(cls:aC)(od:Option bc):Prop:=
 ∃n ds C,x= .exc n ds/\z5 K gd n=ar (ar (.ref C))/\cls= .ref C/\
  ((od=none/\ds=[])\/∃dx fs,od=ar dx/\H dx=ar (.xd fs)/\fs.map (·.1)=([("many":Str),("most":Str)]:List Str)/\RelDs K ι H ds (fs.map (·.2)))
def Ci(K:c_)(Ek:XK):XD:=λx ι _ H=>∀cls od,Mz K ι H x cls od->Ek cls od H
def Dz(K:c_)(F:List D->M D):Sp:=λvs H Q Ek=>∃ ι S ds,Rep K ι H S/\RelDs K ι H ds vs/\cont K (Ci K Ek) (F ds) ι S H (mz K Q)
theorem DA{K:c_}{E X:XD}{α:Type}{c:M α}{ι:List bc}{S:az}{H:Hp}{Q:α->List bc->az->Hp->Prop}(h:cont K E c ι S H Q)(k:∀x ι' Z H',E x ι' Z H'->X x ι' Z H'):cont K X c ι S H Q:=by
 obtain⟨r,Z,e,q⟩:=h;refine⟨r,Z,e,λY T U rep1=>?_⟩;have:=q Y T U rep1;cases r with
 |ok a=>exact this
 |ex x=>exact k x _ _ _ this
def oM{α:Type}(c:M α):M α:=λS=>match c S with
 |some (.ok a,S')=>ar (.ok a,S')
 |_=>none
theorem t5{K:c_}{E:XD}{α:Type}{c:M α}{ι:List bc}{S:az}{H:Hp}{Q:α->List bc->az->Hp->Prop}(h:cont K E (oM c) ι S H Q):cont K bS c ι S H Q:=by
 obtain⟨r,Y,e,q⟩:=h;unfold oM at e;cases z:c S with
 |none=>rw[z]at e;cases e
 |some p=>
  obtain⟨Z,S1⟩:=p;rw[z]at e;cases Z with
  |ok a=>cases e;exact⟨_,_,z,q⟩
  |ex x=>cases e
section
variable {X:Cx}{E:XD}
theorem vd{m:TM}(h:SE X bS e m):SE X E e (λρ=>oM (m ρ)):=PE.imp h λ_ _ _ ⟨ι,S,ρ,rep,re,c⟩=>⟨ι,S,ρ,rep,re,t5 c⟩
theorem wI{Z:List p_}{m:cw}(h:sP X bS Z m):sP X E Z (λρ=>oM (m ρ)):=qH.imp h λ_ _ _ ⟨ι,S,ρ,rep,re,c⟩=>⟨ι,S,ρ,rep,re,t5 c⟩
theorem vf{Z:List p_}{m:cw}(h:sP X.nox bS Z m):sP X bS Z m:=qH.nox h
end
structure Leaves(X:Cx)(Ek:XK):Prop where
 st:X.stack=X.env::X.outer
 fm:X.env.frame=ar X.env.locals
 ex:X.ex=[]
 xe:∀e s',ed (fb X.prog X.w) X.A (R_ X.env e) (λ_ s''=>om X.prog X.w X.outer X.H₀ X.s₀ Ek e s'') (λe' s''=>om X.prog X.w X.outer X.H₀ X.s₀ Ek e' s'') s'->X.xe e s'
 ow:R9 (fb X.prog X.w) X.A X.env X.xe
section
variable {X:Cx}{Ek:XK}
theorem Leaves.pass(L:Leaves X Ek):qK (om X.prog X.w) X Ek:=by rintro pins σ H s x s' I ⟨e,T,C,od,H',rfl,os,bare,un,hok,F,ne,nT,le,lT,hE⟩;have W:L2.Inv X pins σ H' s':=I.call' (ch:=[]) os un hok bare (λb z=>absurd z (by simp));refine L.xe _ _ (yH (base:=X.base) (outer:=X.outer) (by rw[W.ok.frames,L.st]) (by rw[<-L.st];exact W.stack) L.fm F λh' P Q l st=>?_);rw[<-L.st]at st;have Y:iG X.prog X.w H' h':=iG.fly hok st ne nT W.stkFree;have S:Un (kP X.stack) [] H H' s.heap h':=Un.fly un st le lT;have U:L2.Inv X pins σ H' {s' with heap:=h'}:=I.call' (s':={s' with heap:=h'}) (ch:=[]) os S Y bare (λb z=>absurd z (by simp));have R:=U.base;have h0:=I.base;have Z:=W.base;rw[L.ex]at R h0 Z;exact⟨e,P,C,od,H',rfl,U.os,U.bare,R,U.hok,Q,ne,hok.fresh l,Un.gone h0 (by simp) le,Un.gone Z (by simp) (OZ l),hE⟩
theorem Leaves.new{H:Hp}(L:Leaves X Ek)
  (I:L2.Inv X pins σ H s') (F:s'.heap.get? e=ar oe) (N:oe.cls= .ref C) (O:oe.dict=od) (K:oe.data= .fields vs) (G:vs[1]? =ar .none) (Q:H e=none) (hs:X.s₀.heap.get? e=none) (E:Ek (.ref C) od H):X.xe (.ref e) s':=by
 refine L.xe _ _ (wF (base:=X.base) (outer:=X.outer) (by rw[I.ok.frames,L.st]) (by rw[<-L.st];exact I.stack) L.fm F N O K G λh' B J l st=>?_);have T:∀b∈kP (X.env::X.outer),H b=none:=by rw[<-L.st];exact I.stkFree
 have Y:iG X.prog X.w H h':=iG.fly I.hok st Q Q T;have Z:=I.base;rw[L.ex]at Z;have P:∀b o,X.s₀.heap.get? b=ar o->b∉kP X.outer->b∉kP (X.env::X.outer):=λb o q n z=>by
  rw[wH X.outer X.env.locals _ L.fm]at z;rcases NJ.mp z with z|z
  ·exact absurd (Nu q) (by rw[z];exact RF.mpr I.ok.above)
  ·exact n z
 have ne:∀b o,X.s₀.heap.get? b=ar o->b≠e:=λb o q=>ju q hs;refine⟨e,B,C,od,H,rfl,I.os,I.bare,⟨λb o q n hf U=>?_,λb o q n hf U=>?_,Z.free,λb o q U=>?_,Z.tups,Z.frzs,Z.tbls⟩,Y,J,Q,I.hok.fresh l,hs,Un.gone Z (by simp) (OZ l),E⟩
 ·exact st.keep b o (Z.keep b o q n hf U) (ne b o q) (ne b o q) (P b o q hf)
 ·obtain⟨A,R⟩:=Z.slot b o q n hf U;obtain⟨W,S⟩:=st.slot b _ R (ne b o q) (ne b o q);exact⟨W,S⟩
 ·obtain⟨y,R⟩:=Z.there b o q U;obtain⟨W,S⟩:=st.slot b _ R (ne b o q) (ne b o q);exact⟨_,S⟩
theorem bZ{P:eb}{w:eK}{K:c_}{Z:Str->Option aC}{base:f'}{N:List Str}{qual:Str}{scope:Scope}{f:bc}{Y:aC}{A:gg}{outer:List Env}{s₀:b_}{H₀:Hp}:
  Leaves (mP (om P w) P w K Z base N qual scope f Y A outer s₀ H₀ Ek) Ek:=⟨rfl,rfl,rfl,λ_ _ h=>h,PassesOwn.leaving⟩
end
structure DefX(P:eb)(w:eK)(K:c_)(mg:Str->Option aC)(base:f')(k:Nat)(x:Str)(ps:List Str)(F:List D->M D):Prop where
 ex:∃f fd,FnOk P w K mg base (om P w) k f fd ps (Dz K F)/\mg x=ar (.ref f)/\z3 K (.ref f)=cn/\Binds K fd ps []
section
variable {P:eb}{w:eK}{K:c_}{mg:Str->Option aC}{base:f'}
theorem II{x qual:Str}{U:p_}{f:bc}{G:fg}{N X:List Str}{k:Nat}{m:cw}(F:Fun K x qual U f G)(C:FnScope N X (av U))
  (T:∀(Z:aC) (A:gg) (outer:List Env) (s:b_) (H:Hp) (Y:XK),Room k (A.deeper (F_ qual (av U) s.heap.objs.size f Z))->R1 K Z qual=cn->(∃J od R kV doc pm an ct,K.lookup f=ar ⟨J,od,.func (A_ x qual (gO U) (dz U) (av U) .none kV doc pm an Z ct),R⟩)->
   sP (mP (om P w) P w K mg base N qual (av U) f Z A outer s H Y) (Ci K Y) (dz U) m):FnOk P w K mg base (om P w) (k+1) f G X (Dz K (pS N.length X.length m)):=by
 have key:∀{vs:List V} {H:Hp} {Q:VK} {Y:XK},Dz K (pS N.length X.length m) vs H Q Y->vs.length=X.length/\∃ ι S ds,Rep K ι H S/\RelDs K ι H ds vs/\cont K (Ci K Y) (do let o<-m (ds.map ar++ey (N.length - X.length) none);outD o) ι S H (mz K Q):=by
  rintro vs H Q Y ⟨ι,S,ds,rep,r,c⟩;unfold pS at c;by_cases L:ds.length=X.length
  ·rw[if_pos L]at c;exact⟨by rw[<-r.length];exact L,ι,S,ds,rep,r,c⟩
  ·rw[if_neg L]at c;exact(ah c).elim
 obtain⟨J,od,kV,doc,pm,an,Z,ct,R,rfl,I,O⟩:=F.ex;refine GW I O C (λvs H Q Y h=>(key h).1) λA outer s H vs Q Y B h=>⟨_,T Z A outer s H Y B O ⟨J,od,R,kV,doc,pm,an,ct,I⟩,?_⟩;obtain⟨L,ι,S,ds,rep,r,c⟩:=key h;refine⟨ι,S,_,rep,?_,aw (ai c) λo E S1 y e1 rep1 c1=>?_⟩
 ·have:=RelE.start r (N.length - X.length);unfold L2.start;rw[L];exact this
 ·cases o with
  |nx ρ=>exact λz _=>aq c1 .refl rep1 _ .non
  |ret d=>exact aq c1 .refl rep1
  |bk ρ=>exact(ah c1).elim
  |ct ρ=>exact(ah c1).elim
end
section
variable {X:Cx}{Ek:XK}{e:Expr}{es:List Expr}{pos:Pos}{ms:aF->M (List D)}
theorem dM(d:DefX X.prog X.w X.K X.mg X.base k x ps F)(P:Room k X.A)(O:qK (om X.prog X.w) X Ek)(T:SA X (Ci X.K Ek) (e::es) ms)(R:Gl X x:=by rfl)
  (Z:(x==("__debug__":Str))=false:=by decide) (L:dV (e::es) X.env=(dt,hO e X.env)::dV es X.env:=by rfl) (W:(wd pos (dV es X.env)).any (·.1)=false:=by rfl):
  SE X (Ci X.K Ek) (.Call (.Name x p) (e::es) [] pos) (au F ms):=by
 obtain⟨f,fd,G,hm,I,U⟩:=d.ex;refine PE.imp (zB G P R hm I U (.nil) (E:=Ek) O T Z L W) λσ H Q h=>?_;obtain⟨ι,S,ρ,rep,re,c⟩:=h;refine⟨ι,S,ρ,rep,re,aw (ai c) λds Y S1 J e1 rep1 c1 vs N=>?_⟩;show Dz X.K F (vs++[]) J Q Ek;rw[NT];exact⟨Y,S1,ds,rep1,N,c1⟩
theorem aE(d:DefX X.prog X.w X.K X.mg X.base k x ps F)(P:Room k X.A)(T:SA X bS (e::es) ms)(R:Gl X x:=by rfl)
  (Z:(x==("__debug__":Str))=false:=by decide) (N:dV (e::es) X.env=(dt,hO e X.env)::dV es X.env:=by rfl) (W:(wd pos (dV es X.env)).any (·.1)=false:=by rfl):
  SE X bS (.Call (.Name x p) (e::es) [] pos) (au F ms):=by
 obtain⟨f,fd,G,hm,J,U⟩:=d.ex;refine PE.imp (zB G P R hm J U (.nil) (E:=E0) Bz T Z N W) λσ H Q h=>?_;obtain⟨ι,S,ρ,rep,re,c⟩:=h;refine⟨ι,S,ρ,rep,re,aw (ai c) λds Y S1 L e1 rep1 c1 vs O=>?_⟩;show Dz X.K F (vs++[]) L Q E0;rw[NT];exact⟨Y,S1,ds,rep1,O,DA c1 λ_ _ _ _ z=>z.elim⟩
end
def bt:List Str:=["WebError","NoWeb","NoPlace","NoPlaces","NoMap","NoSharing","NoRoot","NoNumber","NotJoined","NoTie","NoText","NoLine","NoDeed","TooGreat"]
def bq(n y:Str):Bool:=n==y||y=="WebError"
abbrev KN:List Value:=[.type "ValueError",.type "Exception",.type "BaseException",.type "object"]
def DB(K:c_)(n:Str):Bool:=match z5 K gd n with
 | some (ar (.ref C))=>Dv K C && (n=="TooGreat"||TK K C KN "ValueError.__new__") && (sb K (.ref C) (.type "ValueError")==ar cn) && (sb K (.type "NoneType") (.ref C)==ar dt) &&
  bt.all (λy=>match z5 K gd y with
   |some (ar (.ref D))=>sb K (.ref C) (.ref D)==ar (bq n y) && T2 K (.ref C) (.ref D)==ar (bq n y)
   |_=>dt)
 |_=>dt
def lj(K:c_):Bool:=bt.all (DB K) && sb K (.type "NoneType") (.type "ValueError")==ar dt
structure ErrAt(K:c_)(n:Str)(C:bc):Prop where
 ns:z5 K gd n=ar (ar (.ref C))
 ck:ExcC K C
 pl:n="TooGreat"\/TK K C KN "ValueError.__new__"=cn
 ve:sb K (.ref C) (.type "ValueError")=ar cn
 nn:sb K (.type "NoneType") (.ref C)=ar dt
 sub:∀y∈bt,∃D,z5 K gd y=ar (ar (.ref D))/\sb K (.ref C) (.ref D)=ar (bq n y)/\T2 K (.ref C) (.ref D)=ar (bq n y)
theorem rM{K:c_}(h:lj K=cn){n:Str}(U:n∈bt):∃C,ErrAt K n C:=by
 unfold lj at h;rw[OA]at h;have Z:=N6.mp h.1 n U;unfold DB at Z;split at Z
 ·next C e=>
  simp only[k',y2,beq_iff_eq,A2]at Z;obtain⟨⟨⟨⟨a1,a2⟩,T⟩,X⟩,Y⟩:=Z;refine⟨C,e,.of a1,a2,T,X,λy S=>?_⟩;have:=Y y S;split at this
  ·next D eD=>
   simp only[k',beq_iff_eq]at this;exact⟨D,eD,this.1,this.2⟩
  ·cases this
 ·cases Z
theorem IJ{K:c_}(h:lj K=cn):sb K (.type "NoneType") (.type "ValueError")=ar false:=by unfold lj at h;rw[OA,P9]at h;exact h.2
theorem FQ{K:c_}(X:K.In h)(q:TK K C KN "ValueError.__new__"=cn):∃bm N nm qn bs hdct sn sub ab col dd k0 k1 k2 k3 k5 mN,
  h.get? C=ar (excClassObj nm qn C N bs bm hdct sn sub ab col dd k0 k1 k2 k3 k5 "ValueError.__new__")/\h.Ns N mN/\mN "__init__"=none/\OwnTail h KN bm:=by
 unfold TK at q;split at q
 case h_2=>cases q
 case h_1 dd cd T ho=>
 split at q
 case h_2=>cases q
 case h_1 C' bm k0 k1 k2 k3 n k5 hm hs=>
 simp only[k',beq_iff_eq,z_]at q;obtain⟨⟨⟨⟨⟨R,en⟩,Z⟩,S⟩,Y⟩,U⟩:=q;subst R en;rcases cd with⟨nm,bs,mro,ns,qn,hd,sn,sub,ab,col,del⟩;dsimp only at hm Z Y U;subst hm Z;obtain rfl:T= #[k0,k1,k2,k3,ar (.builtin "ValueError.__new__"),k5]:=by rcases T with⟨l⟩;simp only at hs;rw[hs]
 exact⟨bm,ns,nm,qn,bs,hd,sn,sub,ab,col,dd,k0,k1,k2,k3,k5,_,X _ _ ho,.of_isNs (W.isNs_of_in X Y),W.nsMap_none_of_in X Y U,W.tail_of_in X S⟩
section
variable {X:Cx}{Ek:XK}{E:XD}
theorem wJ(L:Leaves X Ek)(v:X.calm=cn)(k:lj X.K=cn)(l:x∈bt)(P:x≠"TooGreat")(g:SA X (Ci X.K Ek) (e::es) ms)(n:Gl X x:=by rfl)
  (Q:(x==("__debug__":Str))=false:=by decide) (A:dV (e::es) X.env=(dt,hO e X.env)::dV es X.env:=by rfl) (J:(wd cpos (dV es X.env)).any (·.1)=false:=by rfl):
  SS X (Ci X.K Ek) (.Raise (ar (.Call (.Name x np) (e::es) [] cpos)) none pos) (λρ=>do let ds<-ms ρ;if ds.length<=lim then M.raise (.exc x [])else M.fail):=by
 intro pins s σ H T I h;obtain⟨ι,S,ρ,rep,re,c⟩:=h;obtain⟨C,O⟩:=rM k l;have i:=O.pl.resolve_left P;have hm:X.mg x=ar (.ref C):=PU I.mod.kin I.mod.glob O.ns;obtain⟨bm,N,nm,m,bs,hdct,sn,sub,ab,col,dd,k0,k1,k2,k3,k5,mN,u,d,G,y⟩:=FQ I.mod.kin i;refine wpAny_Raise_call_subU (k5:=k5) (k3:=k3) (k2:=k2) (k1:=k1) (k0:=k0) (nm:=nm) (q:=m) (C:=C) (N:=N) (bm:=bm) (bs:=bs) (hdct:=hdct) (sn:=sn) (sub:=sub) (ab:=ab) (col:=col) (dd:=dd) QW (by decide) QW (mN:=mN) (y.hasType PySem.F.excBase_ValueError.hasBase) (I.ok.hd v) (by rw[A];show(dt||(wd cpos (dV es X.env)).any (·.1))=dt;rw[J];rfl) G (ny I n hm ⟨rfl,?_⟩ Q);have Y:=g cpos pins s σ H _ I ⟨ι,S,ρ,rep,re,aw (ai c) λds Z S1 U e1 rep1 c1 vs B=>(⟨Z,S1,ds,rep1,B,c1⟩:∃Z S1 ds,Rep X.K Z U S1/\RelDs X.K Z U ds vs/\cont X.K (Ci X.K Ek) (if ds.length<=lim then M.raise (.exc x [])else M.fail) Z S1 U _)⟩;rw[A]at Y⊢;refine QH (Oc Y (λus s2 R=>?_) λ_ _ z=>z);obtain⟨vs,U,W,r,Z,S1,ds,rep1,B,c1⟩:=R;by_cases hl:ds.length<=lim
 ·rw[if_pos hl]at c1;refine⟨rfl,?_,W.bk _ _ u,d.keeps W.bk,y.keeps W.bk,λh' b hm=>?_⟩
  ·show us.length<=sizeLine;rw[<-r.length, <-B.length];exact Nv hl ik
  ·obtain⟨t,o,h2,a⟩:=hm.there;have f:L2.Inv X pins σ U {s2 with heap:=h'}:=W.kept (t':=s2.toks) hm.keeps;have w:=W.base;rw[L.ex]at w;obtain⟨r',S',p,j⟩:=c1;cases p;refine L.new f o rfl rfl rfl rfl (iG.gone W.hok hm.new) (Un.gone w (by simp) hm.new) (j Z U .refl rep1 _ _ ⟨x,[],C,rfl,O.ns,rfl,.inl ⟨rfl,rfl⟩⟩)
 ·rw[if_neg hl]at c1;exact(ah c1).elim
def wK(f:Str->Bool):D->M D
 | .exc n _=>if n∈bt then a_ (.bl (f n))else M.fail
 | .non=>a_ (.bl dt)
 |_=>M.fail
theorem BB(x:sO C a od h)(R:od=none\/∃dx fs,od=ar dx/\bB P w H h dx (.xd fs)):∃ox odo,Rn h a ox C odo:=by
 obtain⟨Y,vs,e,T,U,hf⟩:=x;have Z:W.notCls Y=true:=by unfold W.notCls;rw[hf]
 rcases R with rfl|⟨dx,fs,rfl,h2⟩
 ·exact⟨Y,none,e,T,Z,by rw[U];trivial⟩
 ·obtain⟨S,e2⟩:=bB.there h2;exact⟨Y,ar S,e,T,Z,by rw[U];exact e2⟩
theorem FR{Q:aC->b_->Prop}(I:L2.Inv X pins σ H s)(r:RelD X.K ι H (.exc n ds) v)(Y:RelV v u)
  (T:lj X.K=cn) (U:n∈bt) (S:∀C,ErrAt X.K n C->sb X.K (.ref C) cv=ar b) (h:∀tk,Q (.bool b) {s with toks:=tk}):ed (fb X.prog X.w) A (call (.builtin "isinstance") [u,cv]) Q Ex s:=by
 obtain⟨C,Z⟩:=rM T U;have fin:∀{a C2:bc} {od:Option bc},z5 X.K gd n=ar (ar (.ref C2))->v= .ref a->sO C2 a od s.heap->(od=none\/∃dx fs,od=ar dx/\bB X.prog X.w H s.heap dx (.xd fs))->ed (fb X.prog X.w) A (call (.builtin "isinstance") [u,cv]) Q Ex s:=by rintro a C2 od e1 rfl ph hd;rw[Z.ns]at e1;cases e1;obtain rfl:u=ee a:=Y;exact Oq (Dw Z.ck) I.kIn (BB ph hd) (S C Z) (λz=>nomatch z) h
 cases r with
 |exc e1 e2=>exact fin e1 rfl (I.hok _ _ e2).1 (.inl rfl)
 |excF e1 e2 e3 e4 e5=>exact fin e1 rfl (I.hok _ _ e2).1 (.inr ⟨_,_,rfl,I.hok _ _ e3⟩)
theorem DC{Q:aC->b_->Prop}(I:L2.Inv X pins σ H s)(Z:sb X.K (.type "NoneType") cv=ar dt)(h:∀tk,Q (.bool dt) {s with toks:=tk}):
  ed (fb X.prog X.w) A (call (.builtin "isinstance") [.none,cv]) Q Ex s:=Oq Q6 I.kIn q0 Z (λz=>nomatch z) h
theorem Aa{q:Pos}{f:Str->Bool}(J:lj X.K=cn)(G:X.mg "isinstance"=none)(w:SE X E e m)(T:PE X ec (tC vc))(O:∀u,RelV vc u->u=cv)(z:sb X.K (.type "NoneType") cv=ar dt)
  (F:∀n∈bt,∀C,ErrAt X.K n C->sb X.K (.ref C) cv=ar (f n)) (A:Gl X "isinstance":=by rfl)
  (hs:dV [e,ec] X.env=[(dt,hO e X.env),(dt,hO ec X.env)]:=by rfl) (Z:dV [ec] X.env=[(dt,hO ec X.env)]:=by rfl):
  SE X E (.Call (.Name "isinstance" p) [e,ec] [] pos) (λρ=>do let x<-m ρ;wK f x):=by
 have Y:d7 X (.builtin "isinstance") (λxs H Q=>∃x ι d,xs=[x,vc]/\RelD X.K ι H d x/\((d= .non/\Q (.bl dt) H)\/∃n ds,d= .exc n ds/\n∈bt/\Q (.bl (f n)) H)):=by
  intro pins s σ H xs us Q I r h;obtain⟨x,ι,d,rfl,L,B⟩:=h;obtain⟨u,t,rfl,N,U⟩:=vals2 r;cases O _ U;rcases B with⟨rfl,q⟩|⟨n,ds,rfl,hn',q⟩
  ·cases L.non_inv;cases (show u=h_ from N);exact DC I z λP=>⟨.bl _,H,I.tok P,rfl,q⟩
  ·exact FR I L N J hn' (λC y=>F n hn' C y) λP=>⟨.bl _,H,I.tok P,rfl,q⟩
 refine PE.imp (kT Y A G (by decide+kernel) (eT w (eT T j8 Z) (by rw[hs,Z])) (by decide) (by decide) (by rw[hs,Z]) (by rw[Z];rfl)) λσ H Q h=>?_;obtain⟨ι,S,ρ,rep,re,c⟩:=h;refine⟨ι,S,ρ,rep,re,aw (ai c) λx R S1 o e1 rep1 c1 v r=>?_⟩;refine⟨v,R,x,rfl,r,?_⟩;cases x with
 |non=>exact .inl ⟨rfl,aq c1 .refl rep1 _ (.bl _)⟩
 | exc n ds=>
  dsimp only[wK]at c1;by_cases hn':n∈bt
  ·rw[if_pos hn']at c1;exact .inr ⟨n,ds,rfl,hn',aq c1 .refl rep1 _ (.bl _)⟩
  ·rw[if_neg hn']at c1;exact(ah c1).elim
 |_=>exact(ah c1).elim
theorem eZ{m:TM}{e:Expr}{y:Str}{p q pos:Pos}(T:lj X.K=cn)(S:y∈bt)(G:Mod X.K X.mg X.base)(P:X.mg "isinstance"=none)(O:SE X E e m)(Q:Gl X "isinstance":=by rfl)(U:Gl X y:=by rfl)(R:(y==("__debug__":Str))=false:=by decide)
  (hs:dV [e,.Name y q] X.env=[(dt,hO e X.env),(dt,hO (.Name y q) X.env)]:=by rfl) (Z:dV [.Name y q] X.env=[(dt,hO (.Name y q) X.env)]:=by rfl):
  SE X E (.Call (.Name "isinstance" p) [e,.Name y q] [] pos) (λρ=>do let x<-m ρ;wK (λn=>bq n y) x):=by
 obtain⟨C,Y⟩:=rM T S;refine Aa (q:=q) (vc:=.ref C) (cv:=.ref C) T P O (zx U (PU G.kin G.glob Y.ns) rfl R) (λu z=>z) Y.nn (λn J N W=>?_) Q hs Z;obtain⟨L,e1,e2,_⟩:=W.sub y S;rw[Y.ns]at e1;cases e1;exact e2
theorem FS(T:lj X.K=cn)(R:X.mg "isinstance"=none)(Z:X.mg "ValueError"=none)(Q:SE X E e m)(S:Gl X "isinstance":=by rfl)(Y:Gl X "ValueError":=by rfl)
  (hs:dV [e,.Name "ValueError" q] X.env=[(dt,hO e X.env),(dt,hO (.Name "ValueError" q) X.env)]:=by rfl) (U:dV [.Name "ValueError" q] X.env=[(dt,hO (.Name "ValueError" q) X.env)]:=by rfl):
  SE X E (.Call (.Name "isinstance" p) [e,.Name "ValueError" q] [] pos) (λρ=>do let x<-m ρ;wK (λ_=>cn) x):=
 Aa (q:=q) (vc:=.ty "ValueError") (cv:=.type "ValueError") T R Q (qb Y Z (by decide+kernel) rfl) (λu z=>z) (IJ T) (λn P O W=>W.ve) S hs U
end
abbrev ll(ql:Str)(scope:Scope)(f c':bc)(cl:List (Str×bc))(s:b_):Env:=W.envX ql scope s.heap.objs.size f (.ref c') cl
def wL(P:eb)(w:eK)(K:c_)(mg:Str->Option aC)(base:f')(N:List Str)(ql:Str)(scope:Scope)(f c':bc)(cl:List (Str×bc))(A:gg)(outer:List Env)(s:b_)(H:Hp)(Ek:XK):Cx where
 prog:=P
 w:=w
 K:=K
 mg:=mg
 base:=base
 A:=A.deeper (ll ql scope f c' cl s)
 N:=N
 s₀:=s
 H₀:=H
 env:=ll ql scope f c' cl s
 outer:=outer
 stack:=ll ql scope f c' cl s::outer
 ex:=[]
 calm:=cn
 fn:=λ_=>dt
 pn:=[]
 xe:=λe s'=>ed (fb P w) (A.deeper (ll ql scope f c' cl s)) (R_ (ll ql scope f c' cl s) e) (λ_ s''=>om P w outer H s Ek e s'') (λe' s''=>om P w outer H s Ek e' s'') s'
section
variable {P:eb}{w:eK}{K:c_}{mg:Str->Option aC}{base:f'}{N:List Str}{ql:Str}{scope:Scope}{f c':bc}{cl:List (Str×bc)}{params:RL}{body:Expr}{pm ctv:aC}
theorem mY:Leaves (wL P w K mg base N ql scope f c' cl A outer s H Ek) Ek:=⟨rfl,rfl,rfl,λ_ _ h=>h,PassesOwn.leaving⟩
structure Caps(base:f')(scope:Scope)(cl:List (Str×bc))(N:List Str)(vs:List V):Prop where
 kind:scope.kind= .function
 nocell:∀y∈scope.names,y.2≠ .cell
 co:scope.isCoroutine=dt
 gen:scope.isGenerator=dt
 inj:∀x y c,cl.lookup x=ar c->cl.lookup y=ar c->x=y
 has:∀x,scope.names.lookup x=ar .free->∃c,cl.lookup x=ar c
 cell:∀x c,cl.lookup x=ar c->∃v,base.IsCell c v
 len:vs.length=N.length
 val:∀(i:Nat) (x:Str) (v:V),N[i]? =ar x->vs[i]? =ar v->scope.names.lookup x=ar .free/\∃c u,cl.lookup x=ar c/\RelV v u/\base.IsCell c (ar u)
def KO(K:c_)(c':bc)(ql:Str)(ds:List D)(vs:List V)(m:TM):Hp->VK->XK->Prop:=λH Q Ek=>
 ∃ ι S,Rep K ι H S/\H c'=ar (.ext (pR ql c'))/\RelDs K ι H ds vs/\cont K (Ci K Ek) (m (ds.map ar)) ι S H (mz K Q)
theorem iK{h h':f'}(x:h.IsCell c v)(k:∀b o,h.get? b=ar o->h'.get? b=ar o):h'.IsCell c v:=let ⟨o,e,r⟩:=x;⟨o,k _ _ e,r⟩
theorem wM:∀{ds:List D} {vs:List V},RelDs K ι H ds vs->RelE K ι H (ds.map ar) (vs.map ar)
 |_,_,.nil=>.nil
 |_,_,.cons r t=>.cons (λd z=>by cases z;exact⟨_,rfl,r⟩) (wM t)
theorem IK(ho:base.get? f=ar (B_ "<lambda>" ql params body scope cl pm c' ctv))(Y:Caps base scope cl N vs)
  (T:Ta (T3 "<lambda>" ql params body scope cl pm (.ref c') ctv) ⟨[],[]⟩=a_ [])
  (U:∀(A:gg) (outer:List Env) (s:b_) (H:Hp) (G:XK),Room k (A.deeper (ll ql scope f c' cl s))->SE (wL P w K mg base N ql scope f c' cl A outer s H G) (Ci K G) body m):
  LamOk P w K mg base (k+1) f (KO K c' ql ds vs m):=by
 refine⟨⟨_,_,ho,rfl⟩,λA outer s H Q G n Z B=>?_⟩;obtain⟨ι,S,rep,t,rd,c⟩:=B;have bk:∀b o,base.get? b=ar o->s.heap.get? b=ar o:=λb o e=>(Z.bs b o e).1;have C:s.heap.CodeRec (.ref c') ql:=(Z.hok _ _ t).1;refine W.kla_callFunE n.depth (bk _ _ ho) rfl Y.co Y.gen rfl C ?_;rw[T];refine Nr (wpAny_newFunctionEnv Y.nocell (λy hy=>absurd hy (by simp)) (λh1 d g=>?_) Y.kind);have O:∀b o,s.heap.get? b=ar o->h1.get? b=ar o:=λb o e=>(g.2 b (NB (Nu e))).trans (Nm _ e);refine⟨(Z.mod.nolimit.keeps bk).keeps O,?_⟩;show t_ _ _ (.expr body (ll ql scope f c' cl s)) _ _;refine W.kla_codeExpr ?_;have X:∀b:bc,b∉([]:List bc):=λb z=>by cases z
 have E:∀x,scope.names.lookup x≠ar .cell:=λx e=>Y.nocell _ (bz e) rfl;have I:L2.Inv (wL P w K mg base N ql scope f c' cl A outer s H G) [] (vs.map ar) H {s with heap:=h1,toks:=s.toks+0}:=
  ⟨⟨Z.mod,Y.kind,rfl,rfl,Nq _,Y.inj,(λx F=>by
    rcases F with F|F
    ·exact absurd F (E x)
    ·exact Y.has x F),(λ_ _ z=>Bool.noConfusion z),λ_=>n.hd,Around.frames_deeper Z.frames,.inr ⟨rfl,rfl⟩,λb z=>absurd z (X b),Z.bs,Z.bsz,λb _ _=>X b,λb z=>absurd z (X b),Z.funs,Z.frf⟩,
   rfl,Z.bare,Un.kept O,⟨_,d,λi x v l L h3=>(by
    have j:vs[i]? =ar v:=by
     rw[NM]at L;cases q:vs[i]? with
     |none=>rw[q]at L;cases L
     |some a=>rw[q]at L;cases L;rfl
    obtain⟨hf,R,u,e1,e2,e3⟩:=Y.val i x v l j;exact⟨u,e2,.inr ⟨.inr hf,R,e1,iK (iK e3 bk) O⟩⟩)⟩,
   (λx R e=>let ⟨v,z⟩:=Y.cell x R e;⟨v,iK (iK z bk) O⟩),Z.hok.fresh (Nq _),(λx R e=>let ⟨v,o,z,_⟩:=Y.cell x R e;(Z.bs _ _ z).2),
   (λp hp=>absurd hp (by simp[wL])),Z.hok.kept O,by rw[Nl];exact Y.len⟩
 refine Oc (U A outer s H G (n.deeper _) [] _ (vs.map ar) H Q I ⟨ι,S,ds.map ar,rep,wM rd,c⟩) (λu s' h=>?_) λe s' h=>h;obtain⟨v,H',J,r,q⟩:=h;exact⟨v,H',J.os,J.bare,J.base,J.hok,r,q⟩
end
theorem RelE.unset{K:c_}{ι:List bc}{H:Hp}:∀{ρ:S3.aF} {σ:L2.St} (i:Nat),RelE K ι H ρ σ->RelE K ι H (ρ.set i none) (σ.set i none)
 |_,_,_,.nil=>.nil
 |_,_,0,.cons _ t=>.cons (λd' z=>by cases z) t
 |_,_,i+1,.cons q t=>.cons q (RelE.unset i t)
def DD(jn jy:Nat)(c:M D)(ρ:S3.aF):M Out:=λS=>match c S with
 |some (.ok _,S')=>ar (.ok (.nx ρ),S')
 |some (.ex (.exc n ds),S')=>if n∈bt then ar (.ok (.nx (((ρ.set jn (ar (.exc n ds))).set jy (ar (.exc n ds))).set jn none)),S')else none
 |_=>none
open Classical in
def wN(i jn jy:Nat)(f:D)(c:M D):cw:=λρ=>if ρ[i]? =ar (ar f)then DD jn jy c ρ else M.fail
section
variable {X:Cx}{E:XD}{k i jn jy:Nat}{a c':bc}{ql:Str}{ds:List D}{vs:List V}{m:TM}{x n y:Str}{p cpos epos np p1 p2 p3 hpos tpos:Pos}
theorem IL(B:X.stack=X.env::X.outer)(t:X.env.frame=ar X.env.locals)(L:LamOk X.prog X.w X.K X.mg X.base k a (KO X.K c' ql ds vs m))(hr:Room k X.A)(hN:X.N.Nodup)(g:lj X.K=cn)(G:Mod X.K X.mg X.base)(hi:X.N[i]? =ar x)(hv:GT X.env.scope x)
  (s:X.N[jn]? =ar n) (o:X.N[jy]? =ar y) (I:X.env.scope.names.lookup n=ar .local) (u:X.env.scope.names.lookup y=ar .local) (hg:Gl X "WebError")
  (hd:(x==("__debug__":Str))=false:=by decide) (F:(x==("__classdict__":Str))=false:=by decide) (j:(n==("__debug__":Str))=false:=by decide) (Q:(n==("__classdict__":Str))=false:=by decide)
  (l:m_ (.Call (.Name x p) [] [] cpos) none epos.line X.env=a_ false:=by rfl) (R:m_ (.Name n p2) (ar (.Name y p1)) p3.line X.env=a_ false:=by rfl):
  SS X E (.Try [.Expr (.Call (.Name x p) [] [] cpos) epos] [.ExceptHandler (ar (.Name "WebError" np)) (ar n) [.Assign [.Name y p1] (.Name n p2) p3] hpos] [] [] tpos) (wN i jn jy (.fn a c' ql ds vs) (m (ds.map ar))):=by
 obtain⟨CW,f⟩:=rM g (show("WebError":Str)∈bt from .head _);refine PS.imp (BA B t L hr hN hi hv s o I u hg (PU G.kin G.glob f.ns) hd F (by decide) j Q l R) λT σ H h=>?_;obtain⟨ι,S,ρ,rep,re,r,S',e,q⟩:=h;have e:wN i jn jy (.fn a c' ql ds vs) (m (ds.map ar)) ρ S=ar (r,S'):=e;unfold wN at e;by_cases hρ:ρ[i]? =ar (ar (.fn a c' ql ds vs))
 case neg=>rw[if_neg hρ]at e;cases e
 rw[if_pos hρ]at e;unfold DD at e;obtain⟨v,e1,rv⟩:=re.get hρ;cases rv with
 | fn hc' rds=>
  refine⟨e1,ι,S,rep,hc',rds,?_⟩;cases z:m (ds.map ar) S with
  |none=>rw[z]at e;cases e
  | some pr=>
   obtain⟨r1,S1⟩:=pr;rw[z]at e;cases r1 with
   |ok d=>
    cases e;exact⟨_,_,z,λZ O P rep1 v' _=>q Z O P rep1 σ (re.later rep P)⟩
   | ex xd=>
    cases xd with
    | exc nm es=>
     dsimp only at e;split at e
     case isFalse=>cases e
     case isTrue hnm=>
     cases e;refine⟨_,_,z,λZ O P rep1 cls od rx=>?_⟩;obtain⟨n2,a3,C,e2,W,rfl,J⟩:=rx;cases e2;obtain⟨C2,b⟩:=rM g hnm;have:=b.ns;rw[W]at this;cases this;obtain⟨D2,f1,f2,f3⟩:=b.sub "WebError" (.head _);rw[f.ns]at f1;cases f1;refine⟨C,rfl,by rw[f3];simp[bq],λU Y=>?_⟩;have xe:Ext Z O Z (upd O U (.ext (sO C U od))):=fU Y;have c:RelD X.K Z (upd O U (.ext (sO C U od))) (.exc nm es) (.ref U):=by
      rcases J with⟨rfl,rfl⟩|⟨dx,fs,rfl,g1,g2,g3⟩
      ·exact .exc W a8
      ·exact .excF W a8 (by rw[aO (aM g1 Y)];exact g1) g2 (g3.later rep1 xe)
     exact q Z _ (P.trans xe) (iJ rep1 Y) _ (RelE.unset jn ((((re.later rep P).later rep1 xe).set c jn).set c jy))
    |_=>cases e
end
def yJ:List Nat->S3.aF->Option (List D)
 |[],_=>ar []
 |j::r,ρ=>match ρ[j]? with
  |some (ar d)=>(yJ r ρ).map (d::·)
  |_=>none
theorem Ab{K:c_}{ι:List bc}{H:Hp}{ρ:S3.aF}{Z:L2.St}(Y:RelE K ι H ρ Z):∀{js:List Nat} {ds:List D},yJ js ρ=ar ds->∃vs,RelDs K ι H ds vs/\vs.length=js.length/\∀(i j:Nat) (v:V),js[i]? =ar j->vs[i]? =ar v->Z[j]? =ar (ar v)
 |[],ds,e=>by
  cases e;exact⟨[],.nil,rfl,λi j v h=>by simp at h⟩
 | j ::r,ds,e=>by
  unfold yJ at e;cases q:ρ[j]? with
  |none=>rw[q]at e;cases e
  | some o=>
   cases o with
   |none=>rw[q]at e;cases e
   | some d=>
    rw[q]at e;cases q2:yJ r ρ with
    |none=>rw[q2]at e;cases e
    |some es=>
     rw[q2]at e;cases e;obtain⟨v,U,S⟩:=Y.get q;obtain⟨vs,g1,g2,g3⟩:=Ab Y q2;refine⟨v::vs,.cons S g1,by simp[g2],λi X T e1 e2=>?_⟩;cases i with
     |zero=>simp at e1 e2;subst e1 e2;exact U
     |succ i=>exact g3 i X T (by simpa using e1) (by simpa using e2)
structure LamScope(X:Cx)(scope:Scope)(N3:List Str)(js:List Nat):Prop where
 kind:scope.kind= .function
 nocell:∀y∈scope.names,y.2≠ .cell
 co:scope.isCoroutine=dt
 gen:scope.isGenerator=dt
 free:∀y∈scope.names,y.2= .free->X.env.kindOf y.1=ar .cell\/X.env.kindOf y.1=ar .free
 len:js.length=N3.length
 ix:∀(i:Nat) (x:Str) (j:Nat),N3[i]? =ar x->js[i]? =ar j->X.N[j]? =ar x/\scope.names.lookup x=ar .free
def KP(fs:Scope)(N:List Str)(scope:Scope)(N3:List Str)(js:List Nat):Bool:=
 (scope.kind== .function) && scope.names.all (λy=>y.2 != .cell) && !scope.isCoroutine && !scope.isGenerator &&
  scope.names.all (λy=>y.2 != .free||(fs.names.lookup y.1==ar .cell||fs.names.lookup y.1==ar .free)) && (js.length==N3.length) &&
  (N3.zip js).all (λp=>N[p.2]? ==ar p.1 && scope.names.lookup p.1==ar .free)
theorem IM{X:Cx}(Z:Scope)(N:List Str)(L:∀x,X.env.kindOf x=Z.names.lookup x)(P:X.N=N)(h:KP Z N scope N3 js=cn):LamScope X scope N3 js:=by
 unfold KP at h;simp only[k',A2,beq_iff_eq,bne_iff_ne,y2,z_]at h;obtain⟨⟨⟨⟨⟨⟨U,S⟩,W⟩,O⟩,T⟩,Q⟩,R⟩:=h;refine⟨U,S,W,O,λy K e=>?_,Q,λi x j e1 e2=>?_⟩
 ·rw[L];exact(T y K).resolve_left λz=>z e
 ·have Y:(N3.zip js)[i]? =ar (x,j):=PY.mpr ⟨e1,e2⟩;have:=R _ (N4 Y);rw[P];exact this
def DE(K:c_)(R:D->M D->List D->M D)(a c':bc)(ql:Str)(ds:List D)(vs:List V)(m:TM):Sp:=λus H Q _=>
 ∃ ι S rest es,us= .ref a::rest/\Rep K ι H S/\H c'=ar (.ext (pR ql c'))/\RelDs K ι H ds vs/\RelDs K ι H es rest/\cont K bS (R (.fn a c' ql ds vs) (m (ds.map ar)) es) ι S H (mz K Q)
structure RefX(P:eb)(w:eK)(K:c_)(mg:Str->Option aC)(k k0:Nat)(x:Str)(ps:List Str)(R:D->M D->List D->M D):Prop where
 ex:∃fr fd,mg x=ar (.ref fr)/\z3 K (.ref fr)=cn/\Binds K fd ps []/\∀base,Mod K mg base->∀a c' ql ds vs m,LamOk P w K mg base k0 a (KO K c' ql ds vs m)->FnOk P w K mg base (om P w) k fr fd ps (DE K R a c' ql ds vs m)
theorem mD{h Z:f'}:∀{l:List Env},h.FunFrames base l->(∀b∈kP l,Z.get? b=none)->h.FunFrames Z l
 |[],_,_=>trivial
 |env::rest,⟨hk,⟨L,o,hf,_,ho,hd⟩,hr⟩,hn=>by
  rw[wH rest L env hf]at hn;exact⟨hk,⟨L,o,hf,hn L (.head _),ho,hd⟩,mD hr λb Y=>hn b (.tail _ Y)⟩
abbrev jH(X:Cx)(H:Hp)(h:f'):Heap:=W.hideAll (mq h H) (kP X.stack)
theorem rN{X:Cx}{H:Hp}{h:f'}(e:h.get? b=ar o)(n:H b=none)(Z:b∉kP X.stack):(jH X H h).get? b=ar o:=W.hideAll_get _ (nu e n) Z
section
variable {X:Cx}{pins:List (bc×Obj)}{σ:L2.St}{H:Hp}{s:b_}
theorem nW(I:L2.Inv X pins σ H s):∀b o,X.base.get? b=ar o->(jH X H s.heap).get? b=ar o:=λb o e=>by obtain⟨Y,Z⟩:=I.bs b o e;refine rN Y Z λz=>?_;have:=(I.stack.mem z).1;rw[e]at this;cases this
theorem kf(I:L2.Inv X pins σ H s):Mod X.K X.mg (jH X H s.heap):=
 ⟨I.mod.kin.keeps (nW I),I.mod.glob.keeps (nW I),let ⟨mb,h1,h2⟩:=I.mod.blt;⟨mb,h1.keeps (nW I),h2⟩,I.mod.nolimit.keeps (nW I)⟩
theorem FT(I:L2.Inv X pins σ H s):L2.aF X.prog X.w X.K X.mg (jH X H s.heap) X.A X.stack s H:=
 ⟨I.ok.frames,kf I,λb o e=>ur (W.of_hideAll _ e),by rw[W.hideAll_size,oq];exact Nq _,mD I.stack λb Z=>W.hideAll_none _ Z,I.stkFree,I.hok,I.bare⟩
end
section
variable {X:Cx}{x xl ql:Str}{k k0:Nat}{ps N3:List Str}{js:List Nat}{R:D->M D->List D->M D}{R':M D->List D->M D}{params:RL}{body:Expr}{scope:Scope}{lpos p pos:Pos}{es:List Expr}{ms:aF->M (List D)}{m:TM}{c P:bc}
end
def lq(K:c_):List Addr:=cu.filterMap λy=>(n7 K y).map (·.2)
theorem BC{K:c_}{y:Str}{c P:bc}(Z:y∈cu)(e:n7 K y=ar (c,P)):P∈lq K:=OV.mpr ⟨y,Z,by rw[e];rfl⟩
theorem wO{K:c_}{P:bc}(h:P∈lq K):∃y c,y∈cu/\n7 K y=ar (c,P):=by
 obtain⟨y,Z,e⟩:=OV.mp h;cases q:n7 K y with
 |none=>rw[q]at e;cases e
 |some p=>rw[q]at e;cases e;exact⟨y,p.1,Z,q⟩
theorem FU{K:c_}{n:Str->Option aC}{sp:Sp}{Z:b_}{vs:List aC}
  (KX:K.In Z.heap) (nt:T4 K=cn) (g:Z.heap.Ns gd mg) (f:Z.heap.Ns y4 n) (p:∀x:Str,x≠"__name__"->n x=lz x) (E:Z.heap.NoLimit) (hg:Z.gens= #[])
  (i:∃bm I,mg "__builtins__"=ar (.ref bm)/\bm≠y4/\Z.heap.get? bm=ar I/\I.cls= .type "module"/\I.dict=ar y4/\I.data= .plain)
  (U:∀y∈cu,∀c Q,n7 K y=ar (c,Q)->R4 Z.heap c Q/\Z.heap.get? Q=ar (z6 #[]))
  (G:Z.heap.get? a=ar {cls:=.type "list",data:=.seq vs.toArray}) (hi:pb vs ns) (hl:ns.length<=sizeLine) (hr:Room k z4)
  (F:∀base:f',Mod K mg base->BaseL K mg base->FnOk P w K mg base (om P w) k fa fd [x] sp) (O:∀(s:b_) (u:aC),N_ s fd ⟨[u],[]⟩ [(x,u)])
  (l:∀H:Hp,TabsOk K H->E3 K H a (ns.map V.int)->sp [.ref a] H (λv _=>v= .bl cn) λ_ _ _=>False):
  t_ (fb P w) z4 (.call (.ref fa) ⟨[.ref a],[]⟩) (λr s'=>r= .ok (.ret (.bool cn))/\OldK Z.heap s'.heap/\s'.os=Z.os/\B' s'.gens) Z:=by
 have rv:=lN hi;have X:∀Q∈lq K,Z.heap.get? Q=ar (z6 #[]):=λQ hQ=>let ⟨y,c,L,e⟩:=wO hQ;(U y L c Q e).2;have aT:a∉lq K:=λz=>by have:=X a z;rw[G]at this;cases this
 let H:Hp:=λb=>if b∈lq K then ar (.tbl #[])else if b=a/\K.lookup a=none then ar (.frz {cls:=.type "list",data:=.seq vs.toArray} (.lst (ns.map V.int)))else none;have hT:∀b∈lq K,H b=ar (.tbl #[]):=λb z=>if_pos z;have J:∀b,b∉lq K->H b=if b=a/\K.lookup a=none then ar (.frz {cls:=.type "list",data:=.seq vs.toArray} (.lst (ns.map V.int)))else none:=λb z=>if_neg z;have free:∀{b:bc} {o:Obj},Z.heap.get? b=ar o->o≠z6 #[]->(o.cls≠ .type "list"\/K.lookup b=ar o)->H b=none:=λ{b o} e j S=>by
  have z:b∉lq K:=λz=>by have:=X b z;rw[e]at this;exact j (NP this)
  rw[J b z,if_neg];rintro⟨rfl,kn⟩;rcases S with S|S
  ·rw[G]at e;cases e;exact S rfl
  ·rw[kn]at S;cases S
 have N:∀{b:bc} {o:Obj},K.lookup b=ar o->o≠z6 #[]:=λ{b o} e z=>by have h2:=N6.mp nt (b,o) (W.mem_of_lookupK e);subst z;exact absurd (show dt=cn from h2) OD
 have C:iG P w H Z.heap:=λb u e=>by
  by_cases z:b∈lq K
  ·rw[hT b z]at e;cases e;exact X b z
  ·rw[J b z]at e;by_cases q:b=a/\K.lookup a=none
   ·rw[if_pos q]at e;cases e;obtain⟨rfl,_⟩:=q;exact⟨G,by rw[Nl];exact hl,vs,_,rv,G⟩
   ·rw[if_neg q]at e;cases e
 have Y:∀{b:bc} {o:Obj},Z.heap.get? b=ar o->o≠z6 #[]->(o.cls≠ .type "list"\/K.lookup b=ar o)->(mq Z.heap H).get? b=ar o:=λe j S=>nu e (free e j S);have R:∀{b:bc} {m:Str->Option aC},Z.heap.Ns b m->(mq Z.heap H).Ns b m:=λ{b m} ⟨o,es,ep,e,d,r⟩=>by
  have z:H b=none:=by
   by_cases zt:b∈lq K
   ·have:=X b zt;rw[e]at this;cases this;cases d
   ·rw[J b zt,if_neg];rintro⟨rfl,_⟩;rw[G]at e;cases e;cases d
  exact⟨o,es,ep,nu e z,d,r⟩
 have a3:K.In (mq Z.heap H):=λb o e=>Y (KX b o e) (N e) (.inr e);have hM:Mod K mg (mq Z.heap H):=⟨a3,R g,⟨n,R f,p⟩,let ⟨mc,h1,h2⟩:=E;⟨mc,R h1,h2⟩⟩;have hB:BaseL K mg (mq Z.heap H):=by
  refine⟨?_,λy L c Q e=>?_⟩
  ·obtain⟨bm,I,b1,b2,b3,A,b5,b6⟩:=i;exact⟨bm,I,b1,b2,Y b3 (λz=>by rw[z]at A;cases A) (.inl (by rw[A];decide)),A,b5,b6⟩
  ·obtain⟨o,v2,file,tf,flags,tg,a0,text,tt,e1,t,r⟩:=(U y L c Q e).1;exact⟨o,v2,file,tf,flags,tg,a0,text,tt,Y e1 (λz=>by rw[z]at t;cases t) (.inl (by rw[t];decide)),t,r⟩
 have e0:L2.aF P w K mg (mq Z.heap H) z4 [] Z H:=⟨rfl,hM,λb o e=>ur e,P8 (oq _ _),trivial,λb f=>absurd (show b∈([]:List bc)from f) (by simp),C,.of_eq hg⟩;have a6:TabsOk K H:=λy L c Q e=>⟨#[],hT Q (BC L e),trivial,λpos cv q=>by cases q⟩;have B:E3 K H a (ns.map V.int):=by
  cases hk:K.lookup a with
  |some o=>
   have e:=KX a o hk;rw[G]at e;cases e;exact .inr ⟨_,vs.toArray,_,hk,rfl,rfl,rfl,by rw[NA,hi.length];exact hl,by simpa using rv⟩
  |none=>exact .inl ⟨_,by rw[J a aT,if_pos ⟨rfl,hk⟩]⟩
 refine PK ((F _ hM hB).run z4 [] Z H ⟨[.ref a],[]⟩ [.ref a] [.ref a] _ _ hr e0 (O Z (.ref a)) (.cons rfl .nil) (l H a6 B)) λr s' h=>?_;cases r with
 |error e=>obtain⟨_,_,_,_,_,_,_,_,_,_,_,_,_,_,_,z⟩:=h;exact j_ z
 | ok fl=>
  cases fl with
  |next=>exact j_ h
  |brk=>exact j_ h
  |cont=>exact j_ h
  | ret u=>
   obtain⟨v,H',os,bare,un,T,r',q⟩:=h;have q':v= .bl true:=q;subst q';obtain rfl:u=v_ true:=r';refine⟨rfl,⟨λb o e=>?_,λb o e=>un.there b o e (by simp)⟩,os,bare⟩;by_cases zt:b∈lq K
   ·obtain⟨y,c,L,et⟩:=wO zt;obtain⟨hc,hP⟩:=U y L c b et;obtain⟨more,em⟩:=un.tbls b _ (hT b zt);have o2:s'.heap.get? b=ar {cls:=.none,data:=.fields (#[]++more)}:=T b _ em;rw[hP]at e;cases e;exact .inr (.inl ⟨(hc.tab hP).isCodeTable,rfl, #[],more,rfl,o2⟩)
   ·by_cases qa:b=a/\K.lookup a=none
    ·have z1:H b=ar (.frz {cls:=.type "list",data:=.seq vs.toArray} (.lst (ns.map V.int))):=by rw[J b zt,if_pos qa]
     obtain⟨e2,_⟩:=T b _ (un.frzs b _ _ z1);obtain⟨e1,_⟩:=C b _ z1;rw[e]at e1;cases e1;exact .inl e2
    ·exact .inl (un.keep b o e (by rw[J b zt,if_neg qa]) (by intro z;exact absurd (show b∈([]:List bc)from z) (by simp)) (by simp))
theorem DF{l:Tv}{YP:eK->f'->Prop}{d:T5}{K:O'->c_}{sp:eK->Sp}
  (m:l.most=ar n) (P:n<=sizeLine) (N:d.params.defaults=[]) (B:Room k z4)
  (I:∀(w:eK) (h:f'),YP w h->(K w.params).In h) (z:∀w:eK,T4 (K w.params)=cn)
  (U:∀(w:eK) (h:f'),YP w h->∀y∈cu,∀c Q,n7 (K w.params) y=ar (c,Q)->R4 h c Q/\h.get? Q=ar (z6 #[]))
  (F:∀(w:eK) (Z:Str->Option aC) (S:bc) (h:f'),(K w.params).In h->h.Ns gd Z->Z d.name=ar (.ref S)->
   ∃fd:fg,(∀(s:b_) (u:aC),N_ s fd ⟨[u],[]⟩ [(x,u)])/\
    ∀base:f',Mod (K w.params) Z base->BaseL (K w.params) Z base->FnOk l.prog w (K w.params) Z base (om l.prog w) k S fd [x] (sp w))
  (O:∀(w:eK) (H:Hp) (a:bc) (ns:List Int),ns.length<=n->TabsOk (K w.params) H->E3 (K w.params) H a (ns.map V.int)->sp w [.ref a] H (λv _=>v= .bl cn) λ_ _ _=>False):
  Uc q loose XP YP l.row.toRowW d [] (λf vs=>PySem.call f vs):=by
 refine Att.attach_call m N λw s₀ J Z mb S o pm cd doc a vs ns G Y i hd C R X hints hlen r=>?_;have L:=I w _ Y;obtain⟨fd,E,A⟩:=F w Z S _ L G.T.g R;refine FU L (z w) G.T.g G.T.b G.T.builtins G.T.nolimit r G.T.bmain (λy j c Q e=>U w _ Y y j c Q e) X hints (Nv hlen P) B A E λH t p=>O w H a ns hlen t p
def KQ(K:c_)(ts:List bc):Bool:=cu.all λy=>match n7 K y with
 |some (c,Q)=>W.codeHdIn K c Q && ts.contains Q
 |none=>cn
theorem MA{K:O'->c_}{e:∀P,as=(K P).map (·.1)}{w:eK}(X:KQ (K w.params) ts=cn)(Y:(W.kmHook K as e ts).says w h):
  ∀y∈cu,∀c Q,n7 (K w.params) y=ar (c,Q)->R4 h c Q/\h.get? Q=ar (z6 #[]):=λy U c Q Z=>by
 have:=N6.mp X y U;rw[Z]at this;simp only[k']at this;exact⟨W.codeHd_of_K (W.km_in_of Y) this.1,W.km_tabs_of Y Q (List.contains_iff_mem.mp this.2)⟩
def G3(K:c_):Bool:=cu.all λx=>cu.all λy=>match n7 K x,n7 K y with
 |some (_,P),ar (_,Q)=>P !=Q||x==y
 |_,_=>cn
theorem IP{K:c_}(h:G3 K=cn):rL K:=λx Z y Y c d P e1 e2=>by have:=N6.mp (N6.mp h x Z) y Y;rw[e1,e2]at this;simpa using this
def kN(N n:Nat)(m:cw):List D->M D:=pS N n (λρ=>oM (m ρ))
section
variable {P:eb}{w:eK}{K:c_}{mg:Str->Option aC}{base:f'}
theorem br{x qual:Str}{X:p_}{f:bc}{T:fg}{N U:List Str}{k:Nat}{m:cw}{S:List D->M D}(F:Fun K x qual X f T)(J:mg x=ar (.ref f))(R:Binds K T U [])(Q:FnScope N U (av X))(O:S=kN N.length U.length m)
  (Y:∀(Z:aC) (A:gg) (outer:List Env) (s:b_) (H:Hp) (E:XK),Room k (A.deeper (F_ qual (av X) s.heap.objs.size f Z))->
   sP (mP (om P w) P w K mg base N qual (av X) f Z A outer s H E).nox bS (dz X) m):DefX P w K mg base (k+1) x U S:=
 ⟨f,T,by rw[O];exact II F Q λZ A outer s H I L _ _=>wI (vf (Y Z A outer s H I L)),J,F.kp,R⟩
theorem lZ{x qual:Str}{X:p_}{f:bc}{T:fg}{N U:List Str}{k:Nat}{m:cw}{S:List D->M D}(F:Fun K x qual X f T)(J:mg x=ar (.ref f))(R:Binds K T U [])(Q:FnScope N U (av X))(O:S=pS N.length U.length m)
  (Y:∀(Z:aC) (A:gg) (outer:List Env) (s:b_) (H:Hp) (E:XK),Room k (A.deeper (F_ qual (av X) s.heap.objs.size f Z))->
   sP (mP (om P w) P w K mg base N qual (av X) f Z A outer s H E) (Ci K E) (dz X) m):DefX P w K mg base (k+1) x U S:=
 ⟨f,T,by rw[O];exact II F Q λZ A outer s H I L _ _=>Y Z A outer s H I L,J,F.kp,R⟩
theorem FV{x y qual:Str}{f c N:bc}{I:aC}{od:Option bc}{X:Array (Option aC)}{kV U Q Y ct J:aC}{S:Option bc}{O:RL}{bd:List p_}{R:Scope}(L:z5 K gd x=ar (ar (.ref f)))
  (T:K.lookup f=ar ⟨I,od,.func (A_ y qual O bd R J kV U Q S Y ct),X⟩) (Z:n7 K x=ar (c,N)):Y= .ref c:=by
 unfold n7 at Z;rw[L]at Z;dsimp only at Z;rw[T]at Z;dsimp only at Z;cases Y with
 | ref c2=>
  dsimp only at Z;split at Z
  ·split at Z
   ·cases Z;rfl
   ·cases Z
  ·cases Z
 |_=>cases Z
theorem IQ{x qual:Str}{Y:p_}{f:bc}{R:fg}{N T:List Str}{k:Nat}{m:cw}{S:List D->M D}{c z:bc}(F:Fun K x qual Y f R)(J:FnScope N T (av Y))(I:S=kN N.length T.length m)(y:z5 K gd x=ar (ar (.ref f)))(C:n7 K x=ar (c,z))
  (Z:∀(A:gg) (outer:List Env) (s:b_) (H:Hp) (E:XK),Room k (A.deeper (F_ qual (av Y) s.heap.objs.size f (.ref c)))->
   sP (mP (om P w) P w K mg base N qual (av Y) f (.ref c) A outer s H E).nox bS (dz Y) m):FnOk P w K mg base (om P w) (k+1) f R T (Dz K S):=by
 rw[I];refine II F J λU A outer s H B G _ X=>?_;obtain⟨v,od,L,kV,doc,pm,an,ct,Q⟩:=X;have O:U= .ref c:=FV y Q C;subst O;exact wI (vf (Z A outer s H B G))
theorem IR{x qual:Str}{J:p_}{f:bc}{B:fg}{N Z:List Str}{k k0:Nat}{m:D->M D->cw}{R:D->M D->List D->M D}(F:Fun K x qual J f B)(p:mg x=ar (.ref f))(v:Binds K B Z [])(t:FnScope N Z (av J))(n:R=λT c es=>pS N.length Z.length (m T c) (T::es))
  (U:∀(base:f'),Mod K mg base->∀(a X:bc) (ql:Str) (ds:List D) (vs:List V) (mm:TM),LamOk P w K mg base k0 a (KO K X ql ds vs mm)->∀(Y:aC) (A:gg) (outer:List Env) (s:b_) (H:Hp) (E:XK),Room k (A.deeper (F_ qual (av J) s.heap.objs.size f Y))->
   sP (mP (om P w) P w K mg base N qual (av J) f Y A outer s H E).nox bS (dz J) (m (.fn a X ql ds vs) (mm (ds.map ar)))):RefX P w K mg (k+1) k0 x Z R:=by
 refine⟨f,B,p,F.kp,v,λbase G a X ql ds vs mm L=>?_⟩;rw[n];obtain⟨i,od,kV,doc,pm,an,Y,ct,j,rfl,y,C⟩:=F.ex;have key:∀{us:List V} {H:Hp} {Q:VK} {I:XK},DE K (λT c es=>pS N.length Z.length (m T c) (T::es)) a X ql ds vs mm us H Q I->us.length=Z.length/\∃ ι S es,Rep K ι H S/\RelDs K ι H es us/\cont K bS (do let o<-m (.fn a X ql ds vs) (mm (ds.map ar)) (es.map ar++ey (N.length - Z.length) none);outD o) ι S H (mz K Q):=by
  rintro us H Q I ⟨ι,S,rest,es,rfl,rep,hc',rds,res,c⟩;have z:RelDs K ι H (.fn a X ql ds vs::es) (.ref a::rest):=.cons (.fn hc' rds) res;unfold pS at c;dsimp only at c;by_cases O:(D.fn a X ql ds vs::es).length=Z.length
  ·rw[if_pos O]at c;exact⟨by rw[<-z.length];exact O,ι,S,_,rep,z,c⟩
  ·rw[if_neg O]at c;exact(ah c).elim
 refine GW y C t (λus H Q I h=>(key h).1) λA outer s H us Q I q h=>⟨_,vf (U base G a X ql ds vs mm L Y A outer s H I q),?_⟩;obtain⟨O,ι,S,es,rep,r,c⟩:=key h;refine⟨ι,S,_,rep,?_,aw (ai c) λo u S1 g e1 rep1 c1=>?_⟩
 ·have:=RelE.start r (N.length - Z.length);unfold L2.start;rw[O];exact this
 ·cases o with
  |nx ρ=>exact λl _=>aq c1 .refl rep1 _ .non
  |ret d=>exact aq c1 .refl rep1
  |bk ρ=>exact(ah c1).elim
  |ct ρ=>exact(ah c1).elim
end
end S7
section
namespace S4
open PySem PySem.Spec PyProof.Rows
section
variable {prog:eb}{w:eK}{A:gg}{E:aC->b_->Prop}{s:b_}
end
end S4
namespace S3
open PySem PySem.Spec PyProof.Rows L2 S4
section
variable {X:Cx}{E:XD}{e:Expr}{m:TM}{pos:Pos}
end
end S3
end
namespace S4
open PySem PySem.Spec PyProof.Rows L2 S3
def FW(l1 l2:bc):It:=⟨λi H=>∃va vb,Rd H l1 (.lst va)/\Rd H l2 (.lst vb)/\i<va.length/\i<vb.length,
 λi H x H'=>∃va vb p u v,Rd H l1 (.lst va)/\Rd H l2 (.lst vb)/\H p=none/\va[i]? =ar u/\vb[i]? =ar v/\x= .ref p/\H'=upd H p (.tup [u,v]),λi H=>∃va vb,Rd H l1 (.lst va)/\Rd H l2 (.lst vb)/\(va.length<=i\/vb.length<=i)⟩
theorem BD{P:eb}{w:eK}{K:c_}{C:List Expr}{x1}{tp:Pos}{z TI TO Q N l1 l2:bc}(D:Tp z TI TO Q N l1 l2):
  Turn P w K (.Tuple C x1 tp) (FW l1 l2) [z,TI,TO,Q,N] z
   (λi h=>RO h z TI TO .none/\rn h TI (.ref Q) (.ref N)/\(∃a b,rn h TO a b)/\h.IsListIter Q l1 i/\h.IsListIter N l2 i) where
 mem:=by simp
 obj:=λi h st b Y=>by
  obtain⟨S,Z,⟨a,c,U⟩,⟨o1,e1,c1,d1⟩,⟨o2,e2,c2,d2⟩⟩:=st;simp only[gc,fc,or_false]at Y;rcases Y with rfl|rfl|rfl|rfl|rfl
  ·exact⟨_,S,λv z=>by cases z⟩
  ·exact⟨_,Z,λv z=>by cases z⟩
  ·exact⟨_,U,λv z=>by cases z⟩
  ·exact⟨_,e1,λv z=>by rw[d1]at z;cases z⟩
  ·exact⟨_,e2,λv z=>by rw[d2]at z;cases z⟩
 keep:=λi h h' st k=>by obtain⟨S,Z,⟨a,c,U⟩,J,G⟩:=st;exact⟨k z (by simp) _ S,k TI (by simp) _ Z,⟨a,c,k TO (by simp) _ U⟩,J.at λo e=>k Q (by simp) o e,G.at λo e=>k N (by simp) o e⟩
 item:=by
  intro X hP hw f hc i pins s σ H E I hf st hg;subst hP hw f;obtain⟨S,Z,⟨a,c,U⟩,J,G⟩:=st;obtain⟨q,n,r,p,ga,gb⟩:=hg;obtain⟨F,O,d,_⟩:=I.list (.inl r);obtain⟨B,L,m,_⟩:=I.list (.inl p);obtain⟨u1,b6,j⟩:=O.get (Np ga);obtain⟨u2,b4,b5⟩:=L.get (Np gb);refine wpAny_pyNext_zip_item D S Z U J G d.isList m.isList (x:=u1) (y:=u2) (by simpa using b6) (by simpa using b4) λh' a1 a2 a3 a4 a5 a6 t=>?_;have b3:H s.heap.objs.size=none:=I.hok.fresh (Nq _);have lt:∀{c o},s.heap.get? c=ar o->s.heap.objs.size≠c:=λe=>O2 (Nu e);refine⟨_,rfl,Q5 a1 λR l T=>?_⟩;have u:rn R TI (.ref Q) (.ref N):=T.extBut _ _ D.TIz (t _ _ D.TIz D.TITO D.TIi1 D.TIi2 Z);have kk:∀b o,b∉[z,TI,TO,Q,N]->s.heap.get? b=ar o->R.get? b=ar o:=λb o Y e=>by simp only[gc,fc,or_false,not_or]at Y;exact T.extBut _ _ Y.1 (t b o Y.1 Y.2.2.1 Y.2.2.2.1 Y.2.2.2.2 e)
  have A:rn R s.heap.objs.size u1 u2:=T.extBut _ _ (lt S) a5;have I2:L2.Inv X pins σ (upd H s.heap.objs.size (.tup [q[i],n[i]])) {s with heap:=R,toks:=s.toks}:=u7 (o:=.tup [q[i],n[i]]) I hf kk (Nq _) ⟨⟨by show 2<=sizeLine;decide,_,A,rfl⟩,[u1,u2],.cons j (.cons b5 .nil),_,A,rfl,_,rfl⟩;refine⟨.ref s.heap.objs.size,_,I2,rfl,
   ⟨q,n,_,_,_,r,p,b3,Np ga,Np gb,rfl,rfl⟩,⟨l,u,⟨_,_,T.extBut _ _ D.TOz a2⟩,a3.at λo e=>T.extBut _ _ D.i1z e,a4.at λo e=>T.extBut _ _ D.i2z e⟩,λb Y=>?_⟩
  obtain⟨ob,ho,_⟩:∃ob,s.heap.get? b=ar ob/\True:=by
   simp only[gc,fc,or_false]at Y;rcases Y with rfl|rfl|rfl|rfl|rfl
   ·exact⟨_,S,trivial⟩
   ·exact⟨_,Z,trivial⟩
   ·exact⟨_,U,trivial⟩
   ·obtain⟨o,e,_⟩:=J;exact⟨_,e,trivial⟩
   ·obtain⟨o,e,_⟩:=G;exact⟨_,e,trivial⟩
  rw[aO (NB (Nu ho))];exact(hf b Y).1
 done:=by intro X hP hw f hc i pins s σ H E I hf st hg;subst hP hw f;obtain⟨S,Z,⟨a,c,U⟩,J,G⟩:=st;obtain⟨q,n,r,p,gs⟩:=hg;obtain⟨F,O,d,_⟩:=I.list (.inl r);obtain⟨B,L,m,_⟩:=I.list (.inl p);have e4:=O.length;have e6:=L.length;refine wpAny_pyNext_zip_end (I.ok.hd hc) D S Z U J G d.isList m.isList (gs.imp (λg=>by simp;omega) λg=>by simp;omega) λh' t=>⟨rfl,u6 (t':=s.toks) I hf λb o Y e=>?_⟩;simp only[gc,fc,or_false,not_or]at Y;exact t b o Y.1 Y.2.2.1 Y.2.2.2.1 Y.2.2.2.2 e
 self:=λ_ _ _ _ _ st h=>QD st.1 h
theorem FX{X:Cx}{L:List Expr}{x1}{tp p pos:Pos}{es:List Expr}{e:Expr}{z:TA}(w:Gl X "zip")(y:X.mg "zip"=none)(x:PA X (e::es) z)
  (v:dV (e::es) X.env=(dt,hO e X.env)::dV es X.env:=by rfl) (E:(wd pos (dV es X.env)).any (·.1)=false:=by rfl):
  PI X (.Tuple L x1 tp) (.Call (.Name "zip" p) (e::es) [] pos) (λσ H R=>z σ H λxs Z=>(∃a b va vb,xs=[.ref a,.ref b]/\Rd Z a (.lst va)/\Rd Z b (.lst vb)/\R (FW a b) Z)\/
   (∃a b va vb,xs=[.ref a,.ref b]/\Z a=ar (.tup va)/\Z b=ar (.tup vb)/\
   R ⟨λi H=>(Cf va vb).go i H/\(H a=ar (.tup va)/\H b=ar (.tup vb)),(Cf va vb).yld,λi H=>(Cf va vb).stop i H/\(H a=ar (.tup va)/\H b=ar (.tup vb))⟩ Z)):=by
 intro pins s σ H R I h;refine Uj (mO I w y (show lz "zip"=ar (.type "zip") by decide+kernel) (OH (dJ (x pos pins s σ H _ I h) λus s1 ⟨vs,Z,I1,r1,q1⟩=>?_) v E) (by decide) (by decide));have fresh:∀c∈[s1.heap.objs.size+4,s1.heap.objs.size+2,s1.heap.objs.size+3,s1.heap.objs.size,s1.heap.objs.size+1],s1.heap.objs.size<=c:=λc U=>by simp only[gc,fc,or_false]at U;omega
 rcases q1 with⟨a,b,va,vb,rfl,hA,hB,q⟩|⟨a,b,va,vb,rfl,hA,hB,q⟩
 ·obtain⟨u,F,rfl,G,W⟩:=vals2 r1;cases (show u=ee a from G);cases (show F=ee b from W);obtain⟨N,A,K,_⟩:=I1.list (.inl hA);obtain⟨J,B,P,_⟩:=I1.list (.inl hB);have a1:a<s1.heap.objs.size:=by obtain⟨_,e,_⟩:=K.isList;exact Nu e
  have a2:b<s1.heap.objs.size:=by obtain⟨_,e,_⟩:=P.isList;exact Nu e
  refine call_zip_2 K.isList P.isList λh' O S Q T Y _ C=>QD O ?_;exact⟨s1.heap.objs.size+4,_,_,_,Z,rfl,I1.kept (t':=s1.toks) C,BD (zipApart_new a1 a2),⟨O,S,⟨_,_,Q⟩,T,Y⟩,λc U=>I1.fpOk (fresh c U) (I1.hok.fresh (fresh c U)),q⟩
 ·obtain⟨u,F,rfl,G,W⟩:=vals2 r1;cases (show u=ee a from G);cases (show F=ee b from W);obtain⟨N,A,K,_⟩:=I1.tuple (.of hA);obtain⟨J,B,P,_⟩:=I1.tuple (.of hB);have a1:a<s1.heap.objs.size:=by obtain⟨_,e,_⟩:=K;exact Nu e
  have a2:b<s1.heap.objs.size:=by obtain⟨_,e,_⟩:=P;exact Nu e
  refine Bu K P λh' O S Q T Y C=>QD O ?_;exact⟨s1.heap.objs.size+4,_,_,_,Z,rfl,I1.kept (t':=s1.toks) C,Ds (zipApart_new a1 a2) (λH=>H a=ar (.tup va)/\H b=ar (.tup vb)) (λ_=>.rfl),⟨O,S,⟨_,_,Q⟩,T,Y⟩,λc U=>I1.fpOk (fresh c U) (I1.hok.fresh (fresh c U)),q⟩
theorem Rd.lst_inj(h:Rd H a (.lst xs))(h':Rd H a (.lst ys)):xs=ys:=by rcases h with h|⟨o,h⟩<;>rcases h' with h'|⟨o',h'⟩<;>(rw[h]at h';cases h'<;>rfl)
def zL:D->M (List D×Option (Nat×List D))
 | .lst k=>do let xs<-getL k;a_ (xs,ar (k,xs))
 | .fz xs=>a_ (xs,none)
 |_=>M.fail
def FY:Option (Nat×List D)->Option (Nat×List D)->Chk
 |some (k,xs),ar (j,ys)=>.two k j xs ys
 |some (k,xs),none=>.two k k xs xs
 |none,ar (j,ys)=>.two j j ys ys
 |none,none=>.none
def Ac:List D->M Iter
 |[.tup xs,.tup ys]=>a_ ⟨(xs.zip ys).map λp=>.tup [p.1,p.2],.none⟩
 |[a,b]=>do let x<-zL a;let y<-zL b;a_ ⟨(x.1.zip y.1).map λp=>.tup [p.1,p.2],FY x.2 y.2⟩
 |_=>M.fail
structure ZOk(K:c_)(x:List D×Option (Nat×List D))(a:bc)(ι:List bc)(H:Hp):Prop where
 ok:∀ ι2 H2 S2,ExtN ι H ι2 H2->Rep K ι2 H2 S2->(∀k xs,x.2=ar (k,xs)->S2[k]? =ar xs)->∃va,Rd H2 a (.lst va)/\RelDs K ι2 H2 x.1 va
theorem DG{K:c_}{E:XD}{ι:List bc}{S:az}{H:Hp}{d:D}{v:V}{α:Type}{f:List D×Option (Nat×List D)->M α}{Q:α->List bc->az->Hp->Prop}(Z:Rep K ι H S)(r:RelD K ι H d v)(c:cont K E (zL d>>=f) ι S H Q):
  ∃a x X,v= .ref a/\Rd H a (.lst X)/\ZOk K x a ι H/\cont K E (f x) ι S H Q:=by
 cases d with
 | lst k=>
  obtain⟨a,rfl,Y⟩:=r.lst_inv;have L:cont K E (getL k>>=λxs=>a_ (xs,ar (k,xs))>>=f) ι S H Q:=by rw[<-dY];exact c
  obtain⟨xs,vs,I,P,T,R⟩:=bh L Z Y;rw[aj]at R;refine⟨a,(xs,ar (k,xs)),vs,rfl,.inl P,⟨λU O S2 e rep2 ok=>?_⟩,R⟩;obtain⟨X,N,J⟩:=rep2.get k a xs (e.at Y) (ok k xs rfl);exact⟨X,.inl N,J⟩
 |fz xs=>
  obtain⟨a,o,vs,rfl,Y,T⟩:=r.fz_inv;refine⟨a,(xs,none),vs,rfl,.inr ⟨o,Y⟩,⟨λU O S2 e rep2 ok=>?_⟩,aq (ai c) .refl Z⟩;exact⟨vs,.inr ⟨o,(e.oth _ _ Y (Z.notIn Y (by intro _ z;cases z)) (by intro _ z;cases z) (by intro _ z;cases z)).1⟩,T.laterN Z e⟩
 |_=>exact(ah (ai c)).elim
theorem FZ(h:Iter.okS ⟨items,FY x y⟩ S):(∀k xs,x=ar (k,xs)->S[k]? =ar xs)/\∀k xs,y=ar (k,xs)->S[k]? =ar xs:=by
 match x,y,h with
 |some (k,xs),ar (j,ys),h=>exact⟨λ_ _ e=>(by cases e;exact h.1),λ_ _ e=>(by cases e;exact h.2)⟩
 |some (k,xs),none,h=>exact⟨λ_ _ e=>(by cases e;exact h.1),λ_ _ e=>(by cases e)⟩
 |none,ar (j,ys),h=>exact⟨λ_ _ e=>(by cases e),λ_ _ e=>(by cases e;exact h.1)⟩
 |none,none,h=>exact⟨λ_ _ e=>(by cases e),λ_ _ e=>(by cases e)⟩
theorem wQ{K:c_}{ι:List bc}{H:Hp}{a b:bc}{x y:List D×Option (Nat×List D)}(F:ZOk K x a ι H)(C:ZOk K y b ι H):
  jF K ⟨(x.1.zip y.1).map λp=>.tup [p.1,p.2],FY x.2 y.2⟩ (FW a b) ι H:=by
 intro Z S S2 e rep2 ok i;obtain⟨Q,R⟩:=FZ ok;obtain⟨O,X,U⟩:=F.ok Z S S2 e rep2 Q;obtain⟨J,Y,T⟩:=C.ok Z S S2 e rep2 R;have s:=U.length;have r:=T.length;refine⟨λd hd=>?_,λhlen=>?_⟩
 ·obtain⟨A,q,N,L,rfl⟩:=zip_get hd;have w:=(Nt.mp N).1;have B:=(Nt.mp L).1;refine⟨⟨O,J,X,Y,by omega,by omega⟩,?_⟩;rintro v H3 ⟨va',vb',p,u,I,gA,gB,hp,g1,g2,rfl,rfl⟩;cases Rd.lst_inj X gA;cases Rd.lst_inj Y gB;obtain⟨v1,e1,G⟩:=U.get' N;obtain⟨v2,e2,E⟩:=T.get' L;obtain rfl:v1=u:=NP (e1.symm.trans g1);obtain rfl:v2=I:=NP (e2.symm.trans g2);have P:Ext Z S Z (upd S p (.tup [v1,v2])):=fU hp;exact⟨P,iJ rep2 hp,.tup a8 (.cons (G.later rep2 P) (.cons (E.later rep2 P) .nil))⟩
 ·have t:min x.1.length y.1.length<=i:=by simpa using hlen
  refine⟨O,J,X,Y,?_⟩;rcases Nat.le_total x.1.length y.1.length with z|z
  ·exact .inl (by omega)
  ·exact .inr (by omega)
theorem Ad{X:Cx}{x1}(w:X.mg "zip"=none)(u:SE X E a m)(A:SE X E b n)(t:Gl X "zip":=by rfl)
  (hs:dV [a,b] X.env=[(dt,hO a X.env),(dt,hO b X.env)]:=by rfl) (W:dV [b] X.env=[(dt,hO b X.env)]:=by rfl):
  SI X E (.Tuple elts x1 tp) (.Call (.Name "zip" p) [a,b] [] pos) (λρ=>do let ds<-(do let x<-m ρ;let xs<-(do let y<-n ρ;let ys<-a_ [];a_ (y::ys));a_ (x::xs));Ac ds):=by
 intro pins s σ H R I h;have N:PI X (.Tuple elts x1 tp) (.Call (.Name "zip" p) [a,b] [] pos) (λσ H R=>Mq X.K E (aa m (aa n ao)) σ H λxs U=>(∃a b Z Y,xs=[.ref a,.ref b]/\Rd U a (.lst Z)/\Rd U b (.lst Y)/\R (FW a b) U)\/
   (∃a b Z Y,xs=[.ref a,.ref b]/\U a=ar (.tup Z)/\U b=ar (.tup Y)/\
   R ⟨λi H=>(Cf Z Y).go i H/\(H a=ar (.tup Z)/\H b=ar (.tup Y)),(Cf Z Y).yld,λi H=>(Cf Z Y).stop i H/\(H a=ar (.tup Z)/\H b=ar (.tup Y))⟩ U)):=
  FX t w (af u (af A ak (by rw[W];rfl)) (by rw[hs,W])) (by rw[hs,W]) (by rw[W];rfl)
 refine N pins s σ H R I ?_;obtain⟨ι,S,ρ,rep,re,c⟩:=h;refine⟨ι,S,ρ,rep,re,aw (ai c) λds z S1 U e1 rep1 c1 vs r=>?_⟩;unfold Ac at c1;split at c1
 ·next xs ys=>
  obtain⟨v1,ws,rfl,F,C⟩:=r.cons_inv;obtain⟨v2,P,rfl,G,O⟩:=C.cons_inv;cases O.nil_inv;obtain⟨J,Z,rfl,T,B⟩:=F.tup_inv;obtain⟨L,Y,rfl,Q,v⟩:=G.tup_inv;exact .inr ⟨J,L,Z,Y,rfl,T,Q,aq c1 .refl rep1 _ (yD rep1 T Q B v)⟩
 ·next a b _=>
  obtain⟨v1,ws,rfl,F,C⟩:=r.cons_inv;obtain⟨v2,P,rfl,G,O⟩:=C.cons_inv;cases O.nil_inv;obtain⟨J,x,Z,rfl,T,o,q⟩:=DG rep1 F c1;obtain⟨L,y,Y,rfl,Q,l,c3⟩:=DG rep1 G q;exact .inl ⟨J,L,Z,Y,rfl,T,Q,aq c3 .refl rep1 _ (wQ o l)⟩
 ·exact(ah c1).elim
abbrev pG(m n:TM):aF->M Iter:=λρ=>do let ds<-aa m (aa n ao) ρ;Ac ds
end S4
namespace S3
open PySem PySem.Spec PyProof.Rows L2 S4
def oO(f:Expr->Option D):List Expr->Option (List D)
 |[]=>ar []
 |e::es=>match f e,oO f es with
  |some d,ar ds=>ar (d::ds)
  |_,_=>none
def litE:Nat->Expr->Option D
 |_,.Constant .none _ _=>ar .non
 |_,.Constant (.bool b) _ _=>ar (.bl b)
 |_,.Constant (.int i) _ _=>ar (.int i)
 |_,.Constant (.str x) _ _=>ar (.str x)
 |_,.UnaryOp .USub (.Constant (.int i) _ _) _=>ar (.int (-i))
 |n+1,.Tuple es _ _=>match oO (litE n) es with
  |some ds=>if ds.length<=100 then ar (.tup ds)else none
  |none=>none
 |_,_=>none
section
variable {X:Cx}{E:XD}
theorem SE.mono{m Z:TM}(h:SE X E e m)(k:∀ ρ S r,Z ρ S=ar r->m ρ S=ar r):SE X E e Z:=PE.imp h λσ H Q q=>by obtain⟨ι,S,ρ,rep,re,r,Y,e,c⟩:=q;exact⟨ι,S,ρ,rep,re,r,Y,k ρ S _ e,c⟩
theorem DH(h:litE n e=ar d)(es:List Expr)(env:Env):dV (e::es) env=(dt,hO e env)::dV es env:=by
 cases e with
 |Constant c j p=>exact aG
 |UnaryOp o a p=>exact yF
 |Tuple l k p=>exact bI
 |_=>cases n<;>cases h
theorem Ae(Z:∀e d,litE n e=ar d->SE X E e (mK d)):∀{es:List Expr} {ds:List D},oO (litE n) es=ar ds->SA X E es (λ_=>a_ ds)
 |[],ds,h=>by cases h;exact ak
 | e::es,ds,h=>by
  unfold oO at h;cases q:litE n e with
  |none=>rw[q]at h;cases h
  | some d=>
   rw[q]at h;cases q2:oO (litE n) es with
   |none=>rw[q2]at h;cases h
   |some ds'=>
    rw[q2]at h;cases h;exact af (Z e d q) (Ae Z q2) (DH q _ _)
theorem IS:∀(n:Nat) (e:Expr) (d:D),litE n e=ar d->SE X E e (mK d):=by
 intro n
 induction n with
 |zero=>
  intro e d h;unfold litE at h;split at h
  ·cases h;exact mQ
  ·cases h;exact i3
  ·cases h;exact ay
  ·cases h;exact qU
  ·cases h;exact Dt
  ·next h'=>exact absurd h' (by omega)
  ·cases h
 | succ n ih=>
  intro e d h;unfold litE at h;split at h
  ·cases h;exact mQ
  ·cases h;exact i3
  ·cases h;exact ay
  ·cases h;exact qU
  ·cases h;exact Dt
  ·next m es k p hm=>
   cases hm;cases q:oO (litE n) es with
   |none=>rw[q]at h;cases h
   | some ds=>
    rw[q]at h;simp only at h;split at h
    ·next hl=>
     cases h;refine(b8 (Ae ih q)).mono λρ S r Z=>?_;have e:(do let ds'<-(a_ ds:M (List D));bP ds')=(a_ (.tup ds):M D):=by show bP ds=_;unfold bP;rw[if_pos (by unfold lim;omega)]
     rw[e];exact Z
    ·cases h
  ·cases h
theorem d5(n:Nat)(h:litE n e=ar d):SE X E e (mK d):=IS n e d h
end
def aS(m:TM)(ms:E7):E7:=aa m ms
section
variable {X:Cx}{E:XD}
theorem aZ(Z:SE X E e m)(Y:SA X E es ms)(hs:dV (e::es) X.env=(dt,hO e X.env)::dV es X.env):SA X E (e::es) (aS m ms):=af Z Y hs
theorem fX{l p t n}:m_ (.List l p) t n env=a_ false:=rfl
theorem dN{a o b p t n}:m_ (.BinOp a o b p) t n env=a_ false:=rfl
theorem gS{f l k p t n}:m_ (.Call f l k p) t n env=a_ false:=rfl
theorem vg{a b p t n}:m_ (.Subscript a b p) t n env=a_ false:=rfl
theorem wR{a b p t n}:m_ (.Constant a b p) t n env=a_ false:=rfl
end
end S3
namespace S7
open PySem PySem.Spec PyProof.Rows L2 S3
abbrev JT(m:TM):TM:=λρ=>oM (m ρ)
abbrev fq(m:TM)(y:Str):TM:=λρ=>do let x<-m ρ;wK (λn=>bq n y) x
abbrev DI(m:TM):TM:=λρ=>do let x<-m ρ;wK (λ_=>cn) x
abbrev yK(x:Str)(ms:aF->M (List D)):cw:=λρ=>do let ds<-ms ρ;if ds.length<=lim then M.raise (.exc x [])else M.fail
end S7
namespace S3
open PySem PySem.Spec PyProof.Rows L2
mutual
def fY(n:Nat):D->Bool
 | .lst k=>decide (k<n)
 | .tup ds=>bY n ds
 | .ro ds=>bY n ds
 | .fz ds=>bY n ds
 | .fn _ _ _ ds _=>bY n ds
 | .exc _ ds=>bY n ds
 | .non=>cn
 | .bl _=>cn
 | .int _=>cn
 | .str _=>cn
 | .emp=>cn
def bY(n:Nat):List D->Bool
 |[]=>cn
 |d::ds=>fY n d && bY n ds
end
mutual
def jI(n:Nat)(g:Nat->Option (List D)):D->Option D
 | .lst k=>if k<n then ar (.lst k)else (g k).map .fz
 | .tup ds=>(hU n g ds).map .tup
 | .ro ds=>(hU n g ds).map .ro
 | .fz ds=>(hU n g ds).map .fz
 | .fn a c q ds vs=>(hU n g ds).map λes=>.fn a c q es vs
 | .exc x ds=>(hU n g ds).map λes=>.exc x es
 | .non=>ar .non
 | .bl b=>ar (.bl b)
 | .int i=>ar (.int i)
 | .str x=>ar (.str x)
 | .emp=>ar .emp
def hU(n:Nat)(g:Nat->Option (List D)):List D->Option (List D)
 |[]=>ar []
 |d::ds=>match jI n g d,hU n g ds with
  |some u,ar us=>ar (u::us)
  |_,_=>none
end
def xR(S:az)(n:Nat):Nat->Nat->Option (List D)
 |0,_=>none
 |f+1,k=>(S[k]?).bind λxs=>hU n (xR S n f) xs
def rO(S S':az):Prop:=∀k xs,k<S.length->S'[k]? =ar xs->S[k]? =ar xs\/bY S.length xs=cn
open Classical in
def kK(m:M D):M D:=λS=>match m S with
 | some (.ok d,S')=>if S'.length<=S.length then ar (.ok d,S')else
   if rO S S' then (match jI S.length (xR S' S.length 60) d with
    |some u=>ar (.ok u,S'.take S.length)
    |none=>none)else none
 |r=>r
abbrev aQ(m:TM):TM:=λρ=>kK (m ρ)
section
variable {K:c_}{ι ι':List bc}{H H':Hp}{S S':az}
mutual
theorem RelD.cl:∀{d:D} {v:V},RelD K ι H d v->fY ι.length d=cn
 |_,_,.non=>rfl
 |_,_,.bl b=>rfl
 |_,_,.int i=>rfl
 |_,_,.str x=>rfl
 |_,_,.tup h hs=>by unfold fY;exact RelDs.cl hs
 |_,_,.lst h=>by unfold fY;exact NI (Nt.mp h).1
 |_,_,.ro h hs=>by unfold fY;exact RelDs.cl hs
 |_,_,.emp h=>rfl
 |_,_,.fn h hs=>by unfold fY;exact RelDs.cl hs
 |_,_,.exc n h=>rfl
 |_,_,.excF n h h2 hn hs=>by unfold fY;exact RelDs.cl hs
 |_,_,.fz h hs=>by unfold fY;exact RelDs.cl hs
theorem RelDs.cl:∀{ds:List D} {vs:List V},RelDs K ι H ds vs->bY ι.length ds=cn
 |_,_,.nil=>rfl
 |_,_,.cons h hs=>by unfold bY;rw[RelD.cl h,RelDs.cl hs];rfl
end
def mE(P:List bc)(os:bc->Obj)(H:Hp):Hp:=λb=>match H b with
 |some (.lst vs)=>if b∈P then ar (.frz (os b) (.lst vs))else ar (.lst vs)
 |x=>x
theorem DJ{P:List bc}{os:bc->Obj}{b:bc}(h:H b=none):mE P os H b=none:=by unfold mE;rw[h]
theorem bR{P:List bc}{os:bc->Obj}{b:bc}{o:HO}(h:H b=ar o)(Z:∀vs,o≠ .lst vs):mE P os H b=ar o:=by
 unfold mE;rw[h];cases o with
 |lst vs=>exact absurd rfl (Z vs)
 |_=>rfl
theorem qo{P:List bc}{os:bc->Obj}{b:bc}(h:b∉P):mE P os H b=H b:=by
 unfold mE;split
 ·next q=>rw[if_neg h,q]
 ·rfl
theorem yL{os:bc->Obj}(h:b∈P)(e:H b=ar (.lst vs)):mE P os H b=ar (.frz (os b) (.lst vs)):=by unfold mE;rw[e];exact if_pos h
theorem wU(Y:ι.Nodup)(h:ι[k]? =ar a):a∈ι.drop n↔n<=k:=by
 constructor
 ·intro hm;obtain⟨j,Z⟩:=PN.mp hm;rw[QZ]at Z;have:=qT Y h Z;omega
 ·intro X;refine PN.mpr ⟨k - n,?_⟩;rw[QZ,show n+(k - n)=k by omega];exact h
mutual
theorem RelD.down{n:Nat}{os:bc->Obj}:∀{d:D} {v:V},RelD K ι H d v->fY n d=cn->RelD K (ι.take n) (mE (ι.drop n) os H) d v
 |_,_,.non,_=>.non
 |_,_,.bl b,_=>.bl b
 |_,_,.int i,_=>.int i
 |_,_,.str x,_=>.str x
 |_,_,.tup h hs,c=>.tup (bR h (by intro _ z;cases z)) (RelDs.down hs (by unfold fY at c;exact c))
 |_,_,.lst h,c=>.lst (by unfold fY at c;rw[Qj,if_pos (Om c)];exact h)
 |_,_,.ro h hs,c=>.ro (h.imp (λ⟨o,h⟩=>⟨o,bR h (by intro _ z;cases z)⟩) λz=>z) (RelDs.down hs (by unfold fY at c;exact c))
 |_,_,.emp h,_=>.emp (bR h (by intro _ z;cases z))
 |_,_,.fn h hs,c=>.fn (bR h (by intro _ z;cases z)) (RelDs.down hs (by unfold fY at c;exact c))
 |_,_,.exc n h,_=>.exc n (bR h (by intro _ z;cases z))
 |_,_,.excF n h h2 hn hs,c=>.excF n (bR h (by intro _ z;cases z)) (bR h2 (by intro _ z;cases z)) hn (RelDs.down hs (by unfold fY at c;exact c))
 |_,_,.fz h hs,c=>.fz (bR h (by intro _ z;cases z)) (RelDs.down hs (by unfold fY at c;exact c))
theorem RelDs.down{n:Nat}{os:bc->Obj}:∀{ds:List D} {vs:List V},RelDs K ι H ds vs->bY n ds=cn->RelDs K (ι.take n) (mE (ι.drop n) os H) ds vs
 |_,_,.nil,_=>.nil
 |_,_,.cons h hs,c=>by
  unfold bY at c;rw[OA]at c;exact .cons (RelD.down h c.1) (RelDs.down hs c.2)
end
theorem kg{α β:Type}{f:α->β}{o:Option α}{b:β}(h:o.map f=ar b):∃a,o=ar a/\f a=b:=by
 cases o with
 |none=>cases h
 |some a=>exact⟨a,rfl,NP h⟩
theorem DK(h:hU n g (d::ds)=ar us):∃u us',us=u::us'/\jI n g d=ar u/\hU n g ds=ar us':=by
 unfold hU at h;split at h
 ·next u us' e1 e2=>cases h;exact⟨u,us',rfl,e1,e2⟩
 ·cases h
mutual
theorem yM{n:Nat}{os:bc->Obj}{g:Nat->Option (List D)}(Z:∀k us a,n<=k->g k=ar us->ι[k]? =ar a->∃vs,H a=ar (.lst vs)/\RelDs K (ι.take n) (mE (ι.drop n) os H) us vs)(Y:ι.Nodup):
  ∀{d:D} {v:V},RelD K ι H d v->∀{u:D},jI n g d=ar u->RelD K (ι.take n) (mE (ι.drop n) os H) u v
 |_,_,.non,u,e=>by unfold jI at e;cases e;exact .non
 |_,_,.bl b,u,e=>by unfold jI at e;cases e;exact .bl b
 |_,_,.int i,u,e=>by unfold jI at e;cases e;exact .int i
 |_,_,.str x,u,e=>by unfold jI at e;cases e;exact .str x
 |_,_,.tup h hs,u,e=>by
  unfold jI at e;obtain⟨es,e1,rfl⟩:=kg e;exact .tup (bR h (by intro _ z;cases z)) (kh Z Y hs e1)
 | _,_,@RelD.lst _ _ _ a k h,u,e=>by
  unfold jI at e;by_cases hk:k<n
  ·rw[if_pos hk]at e;cases e;exact .lst (by rw[Qj,if_pos hk];exact h)
  ·rw[if_neg hk]at e;obtain⟨us,e1,rfl⟩:=kg e;obtain⟨vs,U,X⟩:=Z k us a (by omega) e1 h;exact .fz (yL ((wU Y h).mpr (by omega)) U) X
 |_,_,.ro h hs,u,e=>by
  unfold jI at e;obtain⟨es,e1,rfl⟩:=kg e;exact .ro (h.imp (λ⟨o,h⟩=>⟨o,bR h (by intro _ z;cases z)⟩) λz=>z) (kh Z Y hs e1)
 |_,_,.emp h,u,e=>by unfold jI at e;cases e;exact .emp (bR h (by intro _ z;cases z))
 |_,_,.fn h hs,u,e=>by
  unfold jI at e;obtain⟨es,e1,rfl⟩:=kg e;exact .fn (bR h (by intro _ z;cases z)) (kh Z Y hs e1)
 |_,_,.exc x h,u,e=>by
  unfold jI at e;obtain⟨es,e1,rfl⟩:=kg e;unfold hU at e1;cases e1;exact .exc x (bR h (by intro _ z;cases z))
 |_,_,.excF x h X hn hs,u,e=>by
  unfold jI at e;obtain⟨es,e1,rfl⟩:=kg e;exact .excF x (bR h (by intro _ z;cases z)) (bR X (by intro _ z;cases z)) hn (kh Z Y hs e1)
 |_,_,.fz h hs,u,e=>by
  unfold jI at e;obtain⟨es,e1,rfl⟩:=kg e;exact .fz (bR h (by intro _ z;cases z)) (kh Z Y hs e1)
theorem kh{n:Nat}{os:bc->Obj}{g:Nat->Option (List D)}(Z:∀k us a,n<=k->g k=ar us->ι[k]? =ar a->∃vs,H a=ar (.lst vs)/\RelDs K (ι.take n) (mE (ι.drop n) os H) us vs)(Y:ι.Nodup):
  ∀{ds:List D} {vs:List V},RelDs K ι H ds vs->∀{us:List D},hU n g ds=ar us->RelDs K (ι.take n) (mE (ι.drop n) os H) us vs
 |_,_,.nil,us,e=>by unfold hU at e;cases e;exact .nil
 |_,_,.cons h hs,us,e=>by
  obtain⟨u,X,rfl,e1,e2⟩:=DK e;exact .cons (yM Z Y h e1) (kh Z Y hs e2)
end
theorem Af(Z:Rep K ι H S){n:Nat}{os:bc->Obj}:∀f k us a,n<=k->xR S n f k=ar us->ι[k]? =ar a->∃vs,H a=ar (.lst vs)/\RelDs K (ι.take n) (mE (ι.drop n) os H) us vs:=by
 intro f
 induction f with
 |zero=>intro k us a _ e;cases e
 | succ f ih=>
  intro k us a T e U;unfold xR at e;cases z:S[k]? with
  |none=>rw[z]at e;cases e
  |some xs=>
   rw[z]at e;obtain⟨vs,X,Y⟩:=Z.get k a xs U z;exact⟨vs,X,kh ih Z.nd Y e⟩
theorem wV(Y:Rep K ι H S)(x:Ext ι H ι' H')(Z:Rep K ι' H' S')(O:rO S S')(os:bc->Obj):
  Ext ι H ι (mE (ι'.drop ι.length) os H')/\Rep K ι (mE (ι'.drop ι.length) os H') (S'.take ι.length):=by
 obtain⟨more,rfl⟩:=id x.ids;have N:(ι++more).take ι.length=ι:=by simp
 refine⟨⟨⟨[],by simp⟩,λa o h n t=>?_⟩,⟨Y.nd,?_,λk a xs e1 e2=>?_,Z.tab.mono λa o h n=>bR h n⟩⟩
 ·obtain⟨U,T⟩:=x.oth a o h n t;rw[qo (λz=>T (QK z))];exact⟨U,n⟩
 ·have:=Z.len;rw[Oz, <-this,Nn];omega
 ·have R:k<ι.length:=(Nt.mp e1).1;rw[Qj,if_pos R]at e2;have X:(ι++more)[k]? =ar a:=by rw[NZ R];exact e1
  obtain⟨vs,U,T⟩:=Z.get k a xs X e2;refine⟨vs,?_,?_⟩
  ·rw[qo (λz=>by have:=(wU Z.nd X).mp z;omega)];exact U
  ·have Q:bY ι.length xs=true:=by
    rcases O k xs (by rw[<-Y.len];exact R) e2 with z|z
    ·obtain⟨_,_,P⟩:=Y.get k a xs e1 z;exact P.cl
    ·rw[Y.len];exact z
   have:=RelDs.down (n:=ι.length) (os:=os) T Q;rw[N]at this;exact this
end
section
variable {X:Cx}{E:XD}{e:Expr}{m:TM}{pins:List (bc×Obj)}{σ:L2.St}{H:Hp}{s:b_}
theorem Inv.fz(I:L2.Inv X pins σ H s)(P:List bc):∃os,L2.Inv X pins σ (mE P os H) s:=by
 refine⟨λa=>(s.heap.get? a).getD {cls:=.none,data:=.fields #[]},?_⟩;have Z:Un X.fs [] H (mE P (λa=>(s.heap.get? a).getD {cls:=.none,data:=.fields #[]}) H) s.heap s.heap:=
  ⟨λb o q _ _ _=>q,λb o q _ _ _=>⟨o.slots,q⟩,λb o _ n _=>DJ n,λb o q _=>⟨o,q⟩,λb xs q=>bR q (by intro _ z;cases z),λb o u q=>bR q (by intro _ z;cases z),λb Y q=>⟨#[],by rw[bR q (by intro _ z;cases z)];simp⟩⟩
 refine I.un (t':=s.toks) Z λb o q=>?_;have st:∀u,H b=ar u->bB X.prog X.w (mE P (λa=>(s.heap.get? a).getD {cls:=.none,data:=.fields #[]}) H) s.heap b u:=λu Z=>
  (I.hok b u Z).stay (λ_ _ _ z=>z) (λc z=>bR z (by intro _ z;cases z)) λc xs z=>bR z (by intro _ z;cases z)
 unfold mE at q;split at q
 ·next vs hb=>
  split at q
  ·cases q;obtain⟨z,its,n,r,e⟩:=(show bB X.prog X.w H s.heap b (.lst vs)from I.hok b _ hb);exact⟨by dsimp only;rw[e];rfl,z,its,n,r,e⟩
  ·cases q;exact st _ hb
 ·exact st _ q
theorem aH(h:SE X E e m):SE X E e (aQ m):=by
 intro pins s σ H Q I N;obtain⟨ι,S,ρ,rep,re,r,L,J,k⟩:=N;have Z:kK (m ρ) S=ar (r,L):=J;unfold kK at Z;cases q:m ρ S with
 |none=>rw[q]at Z;cases Z
 | some p=>
  obtain⟨C,R⟩:=p;rw[q]at Z;cases C with
  |ex x=>
   cases Z;exact h pins s σ H Q I ⟨ι,S,ρ,rep,re,.ex x,_,q,k⟩
  | ok d=>
   dsimp only at Z;by_cases hl:R.length<=S.length
   ·rw[if_pos hl]at Z;cases Z;exact h pins s σ H Q I ⟨ι,S,ρ,rep,re,.ok d,_,q,k⟩
   ·rw [if_neg hl]at Z;by_cases hk:rO S R
    ·rw [if_pos hk]at Z;cases z:jI S.length (xR R S.length 60) d with
     |none=>rw[z]at Z;cases Z
     | some u=>
      rw[z]at Z;cases Z;refine dJ (h pins s σ H (λv T=>∃P:List bc,∀os,Q v (mE P os T)) I ⟨ι,S,ρ,rep,re,.ok d,R,q,λW T x Y v O=>?_⟩) λuv s' ⟨v,T,I',O,P,hq⟩=>?_
      ·refine⟨W.drop ι.length,λos=>?_⟩;obtain⟨F,rep2⟩:=wV rep x Y hk os;have U:Rep X.K ι (mE (W.drop ι.length) os T) (R.take S.length):=by rw[<-rep.len];exact rep2
       have N:W.take ι.length=ι:=by obtain⟨more,rfl⟩:=x.ids;simp
       have rel:RelD X.K ι (mE (W.drop ι.length) os T) u v:=by have:=yM (n:=ι.length) (os:=os) (λk us a=>by rw[rep.len];exact Af Y 60 k us a) Y.nd O (by rw[rep.len];exact z);rw[N]at this;exact this
       exact k ι _ F U v rel
      ·obtain⟨os,G⟩:=Inv.fz I' P;exact⟨v,_,G,O,hq os⟩
    ·rw[if_neg hk]at Z;cases Z
end
end S3
namespace S4
open PySem PySem.Spec PyProof.Rows L2 S3
theorem IT{A:gg}(R:A.handled=none)(X:t≠it)(items:Array aC):
  Draws prog w A it [it,t] items.size (λi v=>items[i]? =ar v) (λi h=>h.IsTupleIter it t i/\h.IsTuple t items) where
 live:=λ_ _ st=>let ⟨⟨o,ho,_⟩,_⟩:=st;⟨o,ho⟩
 frame:=λ_ _ _ st U=>⟨st.1.at λo e=>U it (by simp) o e,let ⟨o,e,r⟩:=st.2;⟨o,U t (by simp) o e,r⟩⟩
 item:=λi s Q E W st S=>ke st.1 st.2 (x:=items[i]) (by simp[W]) λh' Y Z=>S _ h' s.toks (by simp[W]) ⟨Y,let ⟨o,e,r⟩:=st.2;⟨o,Z.extBut _ _ X e,r⟩⟩ Z
 done:=λs Q E st T=>lW R st.1 st.2 (by simp) T
theorem IU{A:gg}(R:A.handled=none)(X:t≠it)(items:Array aC):
  Draws prog w A it [it,t] items.size (λi v=>items[i]? =ar v) (λi h=>h.IsListIter it t i/\h.IsList t items) where
 live:=λ_ _ st=>let ⟨⟨o,ho,_⟩,_⟩:=st;⟨o,ho⟩
 frame:=λ_ _ _ st U=>⟨st.1.at λo e=>U it (by simp) o e,let ⟨o,e,r⟩:=st.2;⟨o,U t (by simp) o e,r⟩⟩
 item:=λi s Q E W st S=>wpAny_nextOf_list_item st.1 st.2 (x:=items[i]) (by simp[W]) λh' Y Z=>S _ h' s.toks (by simp[W]) ⟨Y,let ⟨o,e,r⟩:=st.2;⟨o,Z.extBut _ _ X e,r⟩⟩ Z
 done:=λs Q E st T=>wpAny_nextOf_list_end R st.1 st.2 (by simp) T
def LF(rd:Hp->List V->Prop):It:=⟨λi H=>∃va,rd H va/\i<va.length,λi H x H'=>∃va p v,rd H va/\H p=none/\va[i]? =ar v/\x= .ref p/\H'=upd H p (.tup [.int i,v]),λi H=>∃va,rd H va/\va.length<=i⟩
theorem t6{P:eb}{w:eK}{K:c_}{L:List Expr}{x1}{tp:Pos}{e it t:bc}(O:e≠it)(a6:t≠e)(b6:t≠it){rd:Hp->List V->Prop}{sti:Nat->f'->Prop}{sq:Array aC->f'->Prop}
  (so:∀i h,sti i h->∃o,h.get? it=ar o/\∀v,o.data≠ .cell v) (sk:∀i h h',sti i h->(∀o,h.get? it=ar o->h'.get? it=ar o)->sti i h')
  (N:∀(X:Cx) pins s σ H U,X.prog=P->X.w=w->X.K=K->L2.Inv X pins σ H s->rd H U->∃its:List aC,bg U its/\sq its.toArray s.heap)
  (dr:∀(A:gg) (items:Array aC),A.handled=none->Draws P w A it [it,t] items.size (λi v=>items[i]? =ar v) (λi h=>sti i h/\sq items h))
  (dn:∀(A:gg) (items:Array aC) (i:Nat) (s:b_) (Q:aC->b_->Prop) (E:aC->b_->Prop),A.handled=none->sti i s.heap->sq items s.heap->items[i]? =none->
   (∀h' e,SR it s.heap h'->(∃o,h'.get? e=ar o/\o.cls= .type "StopIteration")->E (.ref e) {s with heap:=h'})->ed (fb P w) A (j' (.ref it)) Q E s):
  Turn P w K (.Tuple L x1 tp) (LF rd) [e,it] e (λi h=>(∃old,IsEnum h e it i old)/\sti i h) where
 mem:=by simp
 obj:=λi h st b Z=>by
  obtain⟨⟨old,he⟩,hs⟩:=st;simp only[gc,fc,or_false]at Z;rcases Z with rfl|rfl
  ·exact⟨_,he,λv z=>by cases z⟩
  ·exact so i h hs
 keep:=λi h h' st k=>by obtain⟨⟨old,he⟩,hs⟩:=st;exact⟨⟨old,k e (by simp) _ he⟩,sk i h h' hs λo q=>k it (by simp) o q⟩
 item:=by
  intro X hP hw f n i pins s σ H E I hf st d;subst hP hw f;obtain⟨⟨old,he⟩,hs⟩:=st;obtain⟨U,B,ga⟩:=d;obtain⟨its,C,a⟩:=N X pins s σ H U rfl rfl rfl I B;have hl:=C.length;obtain⟨u1,a4,g⟩:=C.get (Np ga);have D:=dr X.A.in1 its.toArray (by show X.A.handled=none;exact I.ok.hd n);refine wpAny_pyNext_enum_itemD D he ⟨hs,a⟩ (by rw[NA];omega) O (by simp[O,k_ a6]) λx h' y hx m a3 u hz hk=>?_;have R:x=u1:=by
   have:its[i]? =ar x:=by simpa using hx
   rw[a4]at this;exact(NP this).symm
  subst R;have a0:H s.heap.objs.size=none:=I.hok.fresh (Nq _);have lt:∀{c o},s.heap.get? c=ar o->s.heap.objs.size≠c:=λe=>O2 (Nu e);obtain⟨oi,r,_⟩:=so i _ hs;refine⟨_,rfl,wpAny_letOwnedTupleGo_enum m λS G Y=>?_⟩;have kk:∀b o,b∉[e,it]->s.heap.get? b=ar o->S.get? b=ar o:=λb o Z q=>by simp only[gc,fc,or_false,not_or]at Z;exact Y.extBut _ _ Z.1 (hk b o Z.1 Z.2 q)
  have J:S.get? s.heap.objs.size=ar {cls:=.type "tuple",data:=.seq #[.int i y,x]}:=Y.extBut _ _ (lt he) u;have I2:L2.Inv X pins σ (upd H s.heap.objs.size (.tup [.int i,U[i]])) {s with heap:=S,toks:=y+1}:=u7 (o:=.tup [.int i,U[i]]) I hf kk (Nq _) ⟨⟨by show 2<=sizeLine;decide,_,J,rfl⟩,[.int i y,x],.cons ⟨y,rfl⟩ (.cons g .nil),_,J,rfl,_,rfl⟩;refine⟨.ref s.heap.objs.size,_,I2,rfl,⟨U,_,_,B,a0,Np ga,rfl,rfl⟩,⟨⟨_,G⟩,sk _ _ _ a3.1 λo q=>(Y.2 it (k_ O)).trans q⟩,λb Z=>?_⟩;obtain⟨ob,p,_⟩:∃ob,s.heap.get? b=ar ob/\True:=by
   simp only[gc,fc,or_false]at Z;rcases Z with rfl|rfl
   ·exact⟨_,he,trivial⟩
   ·exact⟨_,r,trivial⟩
  rw[aO (NB (Nu p))];exact(hf b Z).1
 done:=by
  intro X hP hw f n i pins s σ H E I hf st d;subst hP hw f;obtain⟨⟨old,he⟩,hs⟩:=st;obtain⟨U,B,ga⟩:=d;obtain⟨its,C,a⟩:=N X pins s σ H U rfl rfl rfl I B;have hl:=C.length;have u:s.TypeIs (.ref e) "enumerate":=⟨_,he,rfl⟩;unfold A';refine Nk (PR (wpAny_callSpecial?_slot (name:=i_ "__next__") u F.slot_enumerate_next
   (Os F.slot_enumerate_next u F.entry_enumerate_next ?_ (F.args_enumerate_next_1 _))))
  show ed _ _ (SU (.ref e) 2>>=_) _ _ _;refine Nk (Ow he rfl (x:=.ref it) rfl ?_);refine Nk (dn X.A.in1 its.toArray i s _ _ (by show X.A.handled=none;exact I.ok.hd n) hs a (by simp;omega) λh' x j R=>?_);obtain⟨o,p,l⟩:=R;refine Nk (Pr (T:="StopIteration") (b:=cn) ⟨o,p,l⟩ Qx ?_);exact Nr ⟨rfl,u6 (t':=s.toks) I hf λb o Z q=>j b o (λz=>Z (by simp[z])) q⟩
 self:=λ_ _ _ _ _ st h=>by obtain⟨⟨old,he⟩,_⟩:=st;exact Rm he h
theorem wW(l:bc)(items:Array aC):
  Meets (Builtin.«enumerate.__new__» ⟨[.type "enumerate",.ref l],[]⟩) (λ_ R s=>s.heap.IsTuple l items/\
   R (.ok (.ret (.ref (s.heap.push (E6 l)).objs.size)))
    {s with heap:=(s.heap.push (E6 l)).push {cls:=.type "enumerate",data:=.fields #[.none,.bool dt,.ref s.heap.objs.size,n0 0,.none,.none]}}):=
 .of_wp λprog w A R s h=>by
  obtain⟨S,g,d,Q,os⟩:=s;obtain⟨U,h⟩:=h;have W:=sub_enumerate;have Y:Sy (SW ⟨S,g,d,Q,os⟩) l items:=U;obtain⟨⟨c,T,P,O⟩,Z,X,n,hd⟩:=U;replace X:c= .type "tuple":=X;replace hd:P= .seq items n:=hd;subst X hd
  wp_walk using Ph Z
  refine wpAny_stack_any λst=>Nr ?_;split
  ·rename_i c _ _ _ _ _
   cases (c==y3 "enumerate")
   ·wp_walk using Ph Z,OW Y
    exact⟨_,rfl,h⟩
   ·wp_walk using Ph Z,OW Y
    exact⟨_,rfl,h⟩
  ·wp_walk using Ph Z,OW Y
   exact⟨_,rfl,h⟩
section
variable {prog:eb}{w:eK}{A:gg}{E:aC->b_->Prop}{s:b_}
theorem yN{Q:aC->b_->Prop}(Z:s.heap.IsTuple l items)
  (h:∀h',IsEnum h' (s.heap.objs.size+1) s.heap.objs.size 0 .none->h'.IsTupleIter s.heap.objs.size l 0->(∀b o,s.heap.get? b=ar o->h'.get? b=ar o)->Q (.ref (s.heap.objs.size+1)) {s with heap:=h'}):
  ed (fb prog w) A (call (.type "enumerate") [.ref l]) Q E s:=by
 refine callType_new F.called_enumerate (by decide) (F.typeCall_enumerate_1 _) (F.newCall_enumerate_1 _) (λobj=>F.args_object_init_2 obj _) F.entry_enumerate_new (wW l items) ⟨Z,?_⟩;have Y:(s.heap.push (E6 l)).objs.size=s.heap.objs.size+1:=OB ..;have g2:=Nw (s.heap.push (E6 l)) (o:={cls:=.type "enumerate",data:=.fields #[.none,.bool dt,.ref s.heap.objs.size,n0 0,.none,.none]}) rfl;have g1:((s.heap.push (E6 l)).push {cls:=.type "enumerate",data:=.fields #[.none,.bool dt,.ref s.heap.objs.size,n0 0,.none,.none]}).get? s.heap.objs.size=ar (E6 l):=Nm _ (Nw _ rfl);show _/\_;rw[Y]at g2⊢;exact⟨⟨_,g2,rfl⟩,h _ g2 ⟨_,g1,rfl,rfl⟩ λb o q=>Nm _ (Nm _ q)⟩
end
theorem F4{X:Cx}{S:List Expr}{x1}{tp p pos:Pos}{e:Expr}{x:TA}(n:Gl X "enumerate")(w:X.mg "enumerate"=none)(r:PA X [e] x)(hs:dV [e] X.env=[(dt,hO e X.env)]:=by rfl):
  PI X (.Tuple S x1 tp) (.Call (.Name "enumerate" p) [e] [] pos) (λσ H R=>x σ H λxs U=>(∃a Z,xs=[.ref a]/\U a=ar (.tup Z)/\R (LF λH B=>H a=ar (.tup B)) U)\/
   (∃a Z,xs=[.ref a]/\Rd U a (.lst Z)/\R (LF λH B=>Rd H a (.lst B)) U)):=by
 intro pins s σ H R I h;refine Uj (mO I n w (show lz "enumerate"=ar (.type "enumerate") by decide+kernel) (OH (dJ (r pos pins s σ H _ I h) λus s1 ⟨vs,U,I1,r1,q1⟩=>?_) hs (by rfl)) (by decide) (by decide));have fresh:∀c∈[s1.heap.objs.size+1,s1.heap.objs.size],s1.heap.objs.size<=c:=λc Y=>by simp only[gc,fc,or_false]at Y;omega
 rcases q1 with⟨a,Z,rfl,hA,q⟩|⟨a,Z,rfl,hA,q⟩
 ·obtain⟨u,rfl,N⟩:=vals1 r1;cases (show u=ee a from N);obtain⟨T,F,P,_⟩:=I1.tuple (.of hA);have a1:a<s1.heap.objs.size:=by obtain⟨_,e,_⟩:=P;exact Nu e
  refine yN P λh' O C J=>Rm O ?_;refine⟨s1.heap.objs.size+1,_,_,_,U,rfl,I1.kept (t':=s1.toks) J,t6 (e:=s1.heap.objs.size+1) (it:=s1.heap.objs.size) (t:=a) (Rx _) (NB (OC a1)) (NB a1) (sti:=λi h=>h.IsTupleIter s1.heap.objs.size a i) (sq:=λits h=>h.IsTuple a its)
   (λi h ⟨o,e,c,d⟩=>⟨o,e,λv z=>by rw[d]at z;cases z⟩) (λi h h' st k=>st.at k) (λX pins s σ H Z _ _ _ I K=>let ⟨its,rv,p,_⟩:=I.tuple (.of K);⟨its,rv,p⟩)
   (λA items W=>IT W (NB a1) items) (λA items i s Q E W G y L k=>lW W G y L k),⟨⟨_,O⟩,C⟩,λc Y=>I1.fpOk (fresh c Y) (I1.hok.fresh (fresh c Y)),q⟩
 ·obtain⟨u,rfl,N⟩:=vals1 r1;cases (show u=ee a from N);obtain⟨T,F,P,_⟩:=I1.list (.inl hA);have a1:a<s1.heap.objs.size:=by obtain⟨_,e,_⟩:=P.isList;exact Nu e
  refine call_enumerate_list P.isList λh' O C m J=>Rm O ?_;refine⟨s1.heap.objs.size+1,_,_,_,U,rfl,I1.kept (t':=s1.toks) J,t6 (e:=s1.heap.objs.size+1) (it:=s1.heap.objs.size) (t:=a) (Rx _) (NB (OC a1)) (NB a1) (sti:=λi h=>h.IsListIter s1.heap.objs.size a i) (sq:=λits h=>h.IsList a its)
   (λi h ⟨o,e,c,d⟩=>⟨o,e,λv z=>by rw[d]at z;cases z⟩) (λi h h' st k=>st.at k) (λX pins s σ H Z _ _ _ I K=>let ⟨its,rv,p,_⟩:=I.list (.inl K);⟨its,rv,p.isList⟩)
   (λA items W=>IU W (NB a1) items) (λA items i s Q E W G y L k=>wpAny_nextOf_list_end W G y L k),⟨⟨_,O⟩,C⟩,λc Y=>I1.fpOk (fresh c Y) (I1.hok.fresh (fresh c Y)),q⟩
def t7(xs:List D):List D:=xs.zipIdx.map λp=>.tup [.int p.2,p.1]
def G4:D->M Iter
 | .tup xs=>a_ ⟨t7 xs,.none⟩
 | .fz xs=>a_ ⟨t7 xs,.none⟩
 |_=>M.fail
theorem DL{xs:List D}{i:Nat}{d:D}(h:(t7 xs)[i]? =ar d):∃x,xs[i]? =ar x/\d= .tup [.int i,x]:=by
 unfold t7 at h;rw[NM]at h;cases q:xs.zipIdx[i]? with
 |none=>rw[q]at h;cases h
 |some p=>
  rw[q]at h;cases h;rw[List.getElem?_zipIdx]at q;cases z:xs[i]? with
  |none=>rw[z]at q;cases q
  |some x=>rw[z]at q;cases q;exact⟨x,rfl,by simp⟩
theorem pH{K:c_}{ι:List bc}{H:Hp}{xs:List D}{T:Hp->List V->Prop}(R:∀H Y vb,T H Y->T H vb->Y=vb)
  (U:∀Z X S2,ExtN ι H Z X->Rep K Z X S2->∃Y,T X Y/\RelDs K Z X xs Y):jF K ⟨t7 xs,.none⟩ (LF T) ι H:=by
 intro Z X S2 e rep2 ok i;obtain⟨Y,S,Q⟩:=U Z X S2 e rep2;have L:=Q.length;refine⟨λd hd=>?_,λhlen=>⟨Y,S,by unfold t7 at hlen;simp at hlen;omega⟩⟩;obtain⟨x,P,rfl⟩:=DL hd;have J:=(Nt.mp P).1;refine⟨⟨Y,S,by omega⟩,?_⟩;rintro v H3 ⟨va',p,v1,gA,hp,g1,rfl,rfl⟩;cases R _ _ _ S gA;obtain⟨v2,e2,N⟩:=Q.get' P;obtain rfl:v2=v1:=NP (e2.symm.trans g1);have O:Ext Z X Z (upd X p (.tup [.int i,v2])):=fU hp;exact⟨O,iJ rep2 hp,.tup a8 (.cons (.int _) (.cons (N.later rep2 O) .nil))⟩
theorem F5{X:Cx}{E:XD}{Y:List Expr}{x1}{tp p pos:Pos}{a:Expr}{m:TM}(P:X.mg "enumerate"=none)(O:SE X E a m)(L:Gl X "enumerate":=by rfl)(hs:dV [a] X.env=[(dt,hO a X.env)]:=by rfl):
  SI X E (.Tuple Y x1 tp) (.Call (.Name "enumerate" p) [a] [] pos) (λρ=>do let x<-m ρ;G4 x):=by
 intro pins s σ H R I h;refine F4 L P (eT O j8 hs) hs pins s σ H R I ?_;obtain⟨ι,S,ρ,rep,re,c⟩:=h;refine⟨ι,S,ρ,rep,re,aw (ai c) λd Q S1 J e1 rep1 c1 v r=>?_⟩;show(∃a T,[v]=[V.ref a]/\_)\/_;cases d with
 |tup xs=>
  obtain⟨a,vs,rfl,Z,W⟩:=r.tup_inv;refine .inl ⟨a,vs,rfl,Z,aq c1 .refl rep1 _ (pH (λH T K e1 e2=>by rw[e1]at e2;cases e2;rfl) λU N S2 e rep2=>?_)⟩;exact⟨vs,(e.oth _ _ Z (rep1.notIn Z (by intro _ z;cases z)) (by intro _ z;cases z) (by intro _ z;cases z)).1,W.laterN rep1 e⟩
 |fz xs=>
  obtain⟨a,o,vs,rfl,Z,W⟩:=r.fz_inv;refine .inr ⟨a,vs,rfl,.inr ⟨o,Z⟩,aq c1 .refl rep1 _ (pH (λH T K e1 e2=>Rd.lst_inj e1 e2) λU N S2 e rep2=>?_)⟩;exact⟨vs,.inr ⟨o,(e.oth _ _ Z (rep1.notIn Z (by intro _ z;cases z)) (by intro _ z;cases z) (by intro _ z;cases z)).1⟩,W.laterN rep1 e⟩
 |_=>exact(ah c1).elim
abbrev G5(m:TM):aF->M Iter:=λρ=>do let x<-m ρ;G4 x
end S4
namespace S3
open PySem PySem.Spec PyProof.Rows L2
section
variable {X:Cx}{E:XD}{a b e c o tg:Expr}{m n l:TM}{pos p2:Pos}{es:List Expr}{ms:aF->M (List D)}
theorem range_any{bs:List Bool}:(d_ bs.length).any (λi=>bs.getD i dt)=bs.any id:=by
 induction bs with
 |nil=>rfl
 |cons b bs ih=>
  rw[NU,Qo,Rq,List.any_map];simp only[List.getD_cons_zero,List.any_cons,id];congr 1
theorem BE(L:X.calm=cn):d7 X (.builtin "any") (λxs H Q=>∃(p:bc) (bs:List Bool),xs=[.ref p]/\kS X.K H p (bs.map V.bl)/\Q (.bl (bs.any id)) H):=by
 intro pins s σ H xs us Q I r h;obtain⟨p,bs,rfl,G,q⟩:=h;obtain⟨u,rfl,O⟩:=vals1 r;cases (show u=ee p from O);obtain⟨its,S,C,B⟩:=I.list G;have U:=C.isList;refine call_any_walk (Qp U ?_);have T:p<s.heap.objs.size:=by obtain⟨o,P,_⟩:=U;exact Nu P
 have hlen:=S.length;refine⟨s.heap.objs.size,_,_,_,_,_,λi=>bs.getD i dt,rfl,Th (A:=X.A.in1) (by show X.A.handled=none;exact I.ok.hd L) s.heap.objs.size p (NB T) its.toArray,⟨⟨_,Nw _ rfl,rfl,rfl⟩,U.push _⟩,?_,λh' z F=>?_⟩
 ·intro i v s' w x J W;have Y:its[i]? =ar v:=by simpa using J
  have y:i<its.length:=(Nt.mp Y).1;have Z:i<bs.length:=by rw[Nl]at hlen;omega
  have:(bs.map V.bl)[i]? =ar (.bl bs[i]):=by rw[NM,Np Z];rfl
  obtain⟨u,R,N⟩:=S.get this;rw[Y]at R;cases R;cases (show v=v_ bs[i]from N);have:bs.getD i dt=bs[i]:=by simp[List.getD,Z]
  dsimp only at W;rw[this]at W;exact OG W
 ·have e1:its.toArray.size=bs.length:=by rw[NA, <-hlen,Nl]
  rw[e1,range_any];refine⟨.bl _,H,I.kept (λb o e=>F b o ?_ (Nm _ e)),rfl,q⟩;have:b≠s.heap.objs.size:=NB (Nu e);simpa using this
def yO:List D->M D
 |[.lst k]=>do
  let xs<-getL k
  match boolsOf xs with
  |some bs=>a_ (.bl (bs.any id))
  |none=>M.fail
 |[.fz xs]=>match boolsOf xs with
  |some bs=>a_ (.bl (bs.any id))
  |none=>M.fail
 |_=>M.fail
theorem BF:nI X.K E yO (λxs H Q=>∃(p:bc) (bs:List Bool),xs=[.ref p]/\kS X.K H p (bs.map V.bl)/\Q (.bl (bs.any id)) H):=by
 intro ι S H ds vs Q rep r c;unfold yO at c;split at c
 ·next k=>
  obtain⟨v,ws,rfl,U,T⟩:=r.cons_inv;cases T.nil_inv;obtain⟨p,rfl,W⟩:=U.lst_inv;obtain⟨es,us,_,R,Y,Z⟩:=bh c rep W;cases q:boolsOf es with
  |none=>rw[q]at Z;exact(ah Z).elim
  |some bs=>
   rw[q]at Z;refine⟨p,bs,rfl,.of ?_,aq Z .refl rep _ (.bl _)⟩;rw[<-g9 Y q];exact R
 ·next es=>
  obtain⟨v,ws,rfl,U,T⟩:=r.cons_inv;cases T.nil_inv;obtain⟨p,o,us,rfl,W,Y⟩:=U.fz_inv;cases q:boolsOf es with
  |none=>rw[q]at c;exact(ah c).elim
  |some bs=>
   rw[q]at c;refine⟨p,bs,rfl,.inl (.inr ⟨o,?_⟩),aq c .refl rep _ (.bl _)⟩;rw[<-g9 Y q];exact W
 ·exact(ah c).elim
theorem DM(U:X.calm=cn)(Y:X.mg "any"=none)(W:SE X E e m)(Z:Gl X "any":=by rfl)(hs:dV [e] X.env=[(dt,hO e X.env)]:=by rfl):SE X E (.Call (.Name "any" p) [e] [] pos) (de yO m):=
 jW (BE U) BF Z Y (by decide+kernel) (af W ak hs) (by decide) (by decide) hs rfl
end
end S3
section
namespace S3
open PySem PySem.Spec PyProof.Rows L2
section
variable {prog:eb}{w:eK}{A:gg}{R:TH->b_->Prop}{s:b_}
theorem yP
  (Y:t_ (fb prog w) A (.compLoop (.ListComp elt [c1,⟨target,iter,ifs,0⟩] scope pos) 1 it acc env) R s)
  (h:ed (fb prog w) A (RY it) (λZ s'=>t_ (fb prog w) A (.compLoop (.ListComp elt [c1,⟨target,iter,ifs,0⟩] scope pos) 1 Z acc env) R s')
   (notedBy (fb prog w) A env λx s'=>R (.error x) s') s):
  t_ (fb prog w) A (.compStart (.ListComp elt [c1,⟨target,iter,ifs,0⟩] scope pos) 1 it acc env) R s:=by
 refine RA ?_;show ed _ _ ((compStart (.ListComp elt [c1,⟨target,iter,ifs,0⟩] scope pos) 1 it acc env).onRaise (λx=>do J_ x env;M' theWindowsPlace)) _ _ s;refine wpAny_notedAt ?_;unfold compStart;show ed _ _ (ask>>=_) _ _ s;refine Nk (Pq (wpAny_ite ?_));split
 ·first
   |exact Nk (Nr (Nr (SK rfl Y)))
   |exact Nr (SK rfl Y)
 ·first
   |exact Nk (P6 (Nk (Pa (Nk (Oc h (λZ s' h'=>Nr (SK rfl h')) λ_ _ x=>x)))))
   |(refine Nk (P6 ?_);show ed _ _ (M' iter.pos>>=_) _ _ s;exact Nk (Pa (Nk (Oc h (λZ s' h'=>Nr (SK rfl h')) λ_ _ x=>x))))
end
abbrev IV:=St->Hp->(St->Hp->Prop)->Prop
def Ag(J:It)(g:TG)(tt:TT)(tb:IV)(fin:St->Hp->Prop):St->Hp->Prop:=λσ H=>∃W:Nat->Nat->St->Hp->Prop,(∃m,W 0 m σ H)/\∀i m σc Hc,W i m σc Hc->
  (J.stop i Hc/\fin σc Hc)\/(J.go i Hc/\∃N:St->Hp->Prop,(∀ σ' H',N σ' H'->∃m',m'<m/\W (i+1) m' σ' H')/\∀x H',J.yld i Hc x H'->g x σc H' λσ2 H2=>tt σ2 H2 λb H3=>if b=cn then tb σ2 H3 N else N σ2 H3)
def MB(X:Cx)(bd:Sem Unit)(tb:IV):Prop:=∀(pins:List (bc×Obj)) (s:b_) (σ:St) (H:Hp) (N:St->Hp->Prop),Inv X pins σ H s->tb σ H N->∀E,(∀v s',X.xe v s'->E v s')->ed (fb X.prog X.w) X.A bd (λ_ s'=>∃ σ' H',Inv X pins σ' H' s'/\N σ' H') E s
def yQ(e:Expr)(d:Nat)(ipos:Pos)(tg:Expr)(ifs:List Expr)(it acc:aC)(env:Env)(bd:Sem Unit):Sem Fin:=do
 M' ipos
 match<-A' it with
 |none=>a_ (.done .next)
 | some v=>
  F0 tg it v
  RQ tg env v
  let mut ok:=cn
  for c in ifs do
   if ok then ok<-isTrue c env (hO c env)
  if ok then bd
  RZ (.compLoop e d it acc env)
theorem KR(U S Y T Z:Expr)(W X:List Expr)(scope:Scope)(pos:Pos)(it acc:aC)(env:Env):
  Sv (.ListComp U [⟨S,Y,W,0⟩,⟨T,Z,X,0⟩] scope pos) 0 it acc env=yQ (.ListComp U [⟨S,Y,W,0⟩,⟨T,Z,X,0⟩] scope pos) 0 Y.pos S W it acc env
  (do let x<-hO Z env;M' Z.pos;let x<-g_ Z env x;let _<-runOwn (.compStart (.ListComp U [⟨S,Y,W,0⟩,⟨T,Z,X,0⟩] scope pos) 1 (<-y' [x] (RY x)) acc env) env):=by
 unfold Sv yQ;simp;rfl
section
variable {X:Cx}{pins:List (bc×Obj)}{σ:St}{H:Hp}{s:b_}
theorem wX{O:Nat->f'->Prop}{P:St->Hp->Prop}{R:TH->b_->Prop}
  (S:∀v s',X.xe v s'->False) (G:X.calm=cn) (T:Turn X.prog X.w X.K tg J fp it O) (F:PG X tg g) (C:E2 X ifs tt) (B:MB X bd tb)
  (U:Sv (.ListComp elt gens scope pos) d (.ref it) acc X.env=yQ (.ListComp elt gens scope pos) d ipos tg ifs (.ref it) acc X.env bd)
  (I:Inv X pins σ H s) (t:O 0 s.heap) (f:∀b∈fp,j7 X pins H b) (h:Ag J g tt tb P σ H) (Q:∀s' σ' H',Inv X pins σ' H' s'->P σ' H'->R (.ok .next) s'):
  t_ (fb X.prog X.w) X.A (.compLoop (.ListComp elt gens scope pos) d (.ref it) acc X.env) R s:=by
 obtain⟨W,⟨m0,w0⟩,turn⟩:=h;have Z:∀{H':Hp},(∀b∈fp,H' b=none)->∀b∈fp,j7 X pins H' b:=λy b Y=>⟨y b Y,(f b Y).2⟩;refine codeAny_loop rfl (λn s'=>∃i σ' H',Inv X pins σ' H' s'/\O i s'.heap/\(∀b∈fp,H' b=none)/\W i n σ' H') ?_ m0 ⟨0,_,_,I,t,λb Y=>(f b Y).1,w0⟩;rintro n s4 ⟨i,σ4,H4,I4,st4,fr4,w4⟩;show ed _ X.A ((Sv (.ListComp elt gens scope pos) d (.ref it) acc X.env).onRaise (λx=>do J_ x X.env;theTreesLotGoes x)) _ _ s4;refine wpAny_noted ?_;rw[U];refine Nk (Pa (Nk ?_));rcases turn i n σ4 H4 w4 with⟨stop,qn⟩|⟨go,N,hN,step⟩
 ·refine Oc (T.done X rfl rfl rfl G i pins s4 σ4 H4 (λ_ _=>False) I4 (Z fr4) st4 stop) (λr s5 ⟨hr,I5⟩=>?_) λ_ _ z=>z.elim;subst hr;exact Nr (Q s5 σ4 H4 I5 qn)
 ·refine Oc (T.item X rfl rfl rfl G i pins s4 σ4 H4 (λ_ _=>False) I4 (Z fr4) st4 go) (λr s5 ⟨u,hr,h5⟩=>?_) λ_ _ z=>z.elim;subst hr;refine Nk (Oc h5 (λ_ s6 ⟨x,H6,I6,r6,y6,st6,fr6⟩=>?_) λ_ _ z=>z.elim);have L:=I6.pinned (Z fr6) (T.obj _ _ st6);refine Nk (Oc (F _ s6 σ4 H6 x u _ L r6 (step x H6 y6)) (λ_ s7 ⟨σ7,H7,I7,q7⟩=>?_) λ_ _ z=>(S _ _ z).elim);refine Nk (Oc (C _ s7 σ7 H7 _ I7 q7) (λb s8 ⟨H8,I8,q8⟩=>?_) λ_ _ z=>(S _ _ z).elim);have RZ:∀{σ9:St} {H9:Hp} {s9:b_},Inv X (pins++ou fp s6.heap) σ9 H9 s9->N σ9 H9->
    ∃m,m<n/\∃i σ' H',Inv X pins σ' H' s9/\O i s9.heap/\(∀b∈fp,H' b=none)/\W i m σ' H':=λ{σ9 H9 s9} I9 n9=>by
   obtain⟨E,hm,q⟩:=hN σ9 H9 n9;refine⟨E,hm,i+1,σ9,H9,I9.unpinned,T.keep _ _ _ st6 λb Y o e=>(I9.pin (b,o) (NG _ (NG _ (gq Y e)))).1,λb Y=>?_,q⟩;obtain⟨o,e,d⟩:=T.obj _ _ st6 b Y;exact(I9.pin (b,o) (NG _ (NG _ (gq Y e)))).2.1
  cases b with
  |false=>exact Nr ⟨rfl,RZ I8 q8⟩
  |true=>exact Nk (Oc (B _ s8 σ7 H8 N I8 q8 (λ_ _=>False) λ_ _ z=>(S _ _ z).elim) (λ_ s9 ⟨σ9,H9,I9,q9⟩=>Nr ⟨rfl,RZ I9 q9⟩) λ_ _ z=>z.elim)
def BG(p:bc)(te:TE):IV:=λσ H N=>te σ H λy H4=>∃xs,H4 p=ar (.lst xs)/\xs.length<sizeLine/\N σ (upd H4 p (.lst (xs++[y])))
theorem F6(U:PE X elt te):MB X (do let _<-call (.builtin "list.append") [.ref p, <-hO elt X.env]) (BG p te):=by intro pins s σ H N I h E Y;refine Nk (Oc (U _ s σ H _ I h) (λy s9 ⟨yv,H9,I9,r9,q9⟩=>?_) Y);obtain⟨xs,Z,S,W⟩:=q9;refine Nk (Oc (lM (X:=X) _ s9 σ H9 (.ref p) [yv] (.ref p) [y] (λ_ T=>N σ T) I9 rfl (.cons r9 .nil) ⟨p,xs,yv,rfl,rfl,Z,S,W⟩) (λ_ s10 ⟨_,H10,I10,_,q10⟩=>?_) Y);exact Nr ⟨σ,H10,I10,q10⟩
def LG(wi:TI)(g:TG)(tt:TT)(tb:IV):IV:=λσ H N=>wi σ H λJ H1=>Ag J g tt tb N σ H1
theorem IW(U:∀v s',X.xe v s'->False)(Q:X.calm=cn)(C:PI X tg iter wi)(O:PG X tg g)(F:E2 X ifs tt)(y:PE X elt te)
  (hs:∀x,g_ iter X.env x=a_ x):
  MB X (do let x<-hO iter X.env;M' iter.pos;let x<-g_ iter X.env x;let _<-runOwn (.compStart (.ListComp elt [c1,⟨tg,iter,ifs,0⟩] scope pos) 1 (<-y' [x] (RY x)) (.ref p) X.env) X.env) (LG wi g tt (BG p te)):=by
 intro pins s σ H N I h E S;refine Nk (Oc (C pins s σ H _ I h) (λv s1 K=>?_) S);refine Nk (Pa (Nk (RK (hs v) (Nk (Oi (Oc K (λR s2 B=>?_) S))))));obtain⟨it,u,t,J,q,e,G,T,Y,f2,L⟩:=B;subst e;have loop:t_ (fb X.prog X.w) X.A (.compLoop (.ListComp elt [c1,⟨tg,iter,ifs,0⟩] scope pos) 1 (.ref it) (.ref p) X.env) (λr s'=>match r with| .ok f=>ed (fb X.prog X.w) X.A (a_ ()) (λ_ s'=>∃Z W,Inv X pins Z W s'/\N Z W) E s'| .error e=>cameBackBy (fb X.prog X.w) X.A X.env E e s') s2:=
  wX (ipos:=iter.pos) U Q T O F (F6 y) (by rfl) G Y f2 L λs' Z W P z=>Nr ⟨Z,W,P,z⟩
 exact Nk (wpAny_runOwn (yP loop (T.self _ 0 _ _ _ Y loop)))
end
def DN(wi:TI)(js:List (Option Nat))(g:TG)(tt:TT)(tb:bc->IV):TE:=λσ H Q=>wi σ H λJ H1=>∀p,H1 p=none->Ag J g tt (tb p) (λ_ H'=>Q (.ref p) H') (oA js σ) (upd H1 p (.lst []))
section
variable {X:Cx}{scope:Scope}{Nc:List Str}{js:List (Option Nat)}{pins:List (bc×Obj)}{σ:St}{H:Hp}{s:b_}
theorem DO(c:CompScope X scope Nc js)(a:X.calm=cn)(hi:PI X tg iter wi)
  (B:∀C ex s H,PG (aR X scope Nc C ex s H) tg g/\E2 (aR X scope Nc C ex s H) ifs tt/\PI (aR X scope Nc C ex s H) tg2 iter2 wi2/\PG (aR X scope Nc C ex s H) tg2 g2/\E2 (aR X scope Nc C ex s H) ifs2 tt2/\PE (aR X scope Nc C ex s H) elt te)
  (hs:∀x,g_ iter X.env x=a_ x:=by intro _;rfl) (l:∀env x,g_ iter2 env x=a_ x:=by intro _ _;rfl):
  PE X (.ListComp elt [⟨tg,iter,ifs,0⟩,⟨tg2,iter2,ifs2,0⟩] scope pos) (DN wi js g tt λp=>LG wi2 g2 tt2 (BG p te)):=by
 intro pins s σ H Q I h;rw[Sh];refine wpAny_comprehension_free rfl hs (iI scope X.env (c.has I.ok)) c.kind c.loc (dJ (hi pins s σ H _ I h) λv s1 O=>dJ O λb0 s2 h2=>?_);obtain⟨it,W,tn,J,R,e,I2,T,F,f2,y⟩:=h2;subst e;refine Od (tO λO U P S=>?_);dsimp only at U P S⊢;have y:=y s2.heap.objs.size (I2.hok.fresh (Nq _));have E:Inv X pins σ (upd R s2.heap.objs.size (.lst [])) {s2 with heap:=s2.heap.push {cls:=.type "list",dict:=none,data:=.seq ([]:List aC).toArray}}:=
  I2.laid (t':=s2.toks) (λ_ _ q=>Nm _ q) (Nq _) ⟨NN _,[],0,.nil,Nw _ rfl⟩
 generalize hS3:({s2 with heap:=s2.heap.push {cls:=.type "list",dict:=none,data:=.seq ([]:List aC).toArray}}:b_)=s3 at E;have e3:s3.heap=s2.heap.push {cls:=.type "list",dict:=none,data:=.seq ([]:List aC).toArray}:=by rw[<-hS3]
 rw[<-e3]at U P S⊢;generalize hp:s2.heap.objs.size=p at*;have N:∀b∈W,b<p:=λb Z=>by obtain⟨o,e,_⟩:=T.obj _ _ F b Z;rw[<-hp];exact Nu e
 have n:∀b∈W,b≠p:=λb Z=>NB (N b Z);have f:∀b∈W,j7 X pins (upd R p (.lst [])) b:=λb Z=>⟨by rw[aO (n b Z)];exact(f2 b Z).1,(f2 b Z).2⟩;have K:s3.heap.objs.size=p+1:=by rw[e3,OB,hp]
 have L:∀b∈W,b<s3.heap.objs.size:=λb Z=>by rw[K];exact OC (N b Z)
 have Y:∀b o,s3.heap.get? b=ar o->O.get? b=ar o:=P;have j:tn 0 O:=T.keep _ _ _ F λb Z o e=>Y b o (by rw[e3];exact Nm _ e);generalize hC:s3.heap.objs.size=C at*;have i:O.Ns C (λ_=>none):=by simpa using U
 have start:∀tk,Inv (aR X scope Nc C W s3 (upd R p (.lst []))) [] (oA js σ) (upd R p (.lst [])) {s3 with heap:=O,toks:=tk}:=λtk=>qR c E f (λb Z=>by rw[hC];exact L b Z) hC.symm i Y S;have ok:=(start 0).ok;have G:∀b∈W,j7 (aR X scope Nc C W s3 (upd R p (.lst []))) [] (upd R p (.lst [])) b:=λb Z=>
  ⟨(f b Z).1,(ok.exf b Z).1,ok.exfs b Z,.inl Z,(ok.exf b Z).2,λ_ z=>nomatch z⟩
 obtain⟨hG,hT,u,t,d,hE⟩:=B C W s3 (upd R p (.lst []));have loop:∀s':b_,Inv (aR X scope Nc C W s3 (upd R p (.lst []))) [] (oA js σ) (upd R p (.lst [])) s'->tn 0 s'.heap->
   t_ (fb X.prog X.w) X.A (.compLoop (.ListComp elt [⟨tg,iter,ifs,0⟩,⟨tg2,iter2,ifs2,0⟩] scope pos) 0 (.ref it) (.ref p) (aR X scope Nc C W s3 (upd R p (.lst []))).env) (TR (fb X.prog X.w) X.A X.xe none (EP X pins σ Q) (.ref p) C) s':=by
  intro s' I' r;refine wX (X:=aR X scope Nc C W s3 (upd R p (.lst []))) (ipos:=iter.pos) (λ_ _ z=>z) a T hG hT (IW (c1:=⟨tg,iter,ifs,0⟩) (scope:=scope) (pos:=pos) (λ_ _ z=>z) a u t d hE (l _)) (KR ..) I' r G y λs5 b4 H5 I5 q5=>?_;obtain⟨m,hm,_⟩:=I5.loc;exact⟨m,hm,λh2 k=>⟨.ref p,H5,v7 E hC.symm f I5 k,rfl,q5⟩⟩
 refine codeAny_compStart_list (loop _ ?_ ?_) (T.self _ 0 _ _ _ ?_ (loop _ ?_ ?_))
 all_goals first
  |exact j
  |(subst hS3;exact start _)
end
end S3
end
namespace S3
open PySem PySem.Spec PyProof.Rows L2
abbrev BM:=aF->M (List D×aF)
def cB(it:Iter)(g:mw)(t:aF->M Bool)(bd:BM):List D->aF->M (List D×aF)
 |[],ρ=>do fW it;a_ ([],ρ)
 | d::ds,ρ=>do
  fW it
  let ρ1<-g d ρ;let b<-t ρ1
  if b=cn then do
   let x<-bd ρ1;let y<-cB it g t bd ds x.2
   a_ (x.1++y.1,y.2)
  else cB it g t bd ds ρ1
def BH(m:TM):BM:=λρ=>do let y<-m ρ;a_ ([y],ρ)
def KS(mi:aF->M Iter)(g:mw)(t:aF->M Bool)(m:TM):BM:=λρ=>do let it<-mi ρ;if it.items.length<=3000 then cB it g t (BH m) it.items ρ else M.fail
abbrev m3(mi:aF->M Iter)(g:mw)(t:aF->M Bool)(mi2:aF->M Iter)(g2:mw)(t2:aF->M Bool)(m:TM)(js:List (Option Nat)):TM:=λρ=>do
 let it<-mi ρ;let x<-(if it.items.length<=3000 then cB it g t (KS mi2 g2 t2 m) it.items (fS js ρ)else M.fail)
 bx x.1
section
variable {K:c_}{p:bc}{Q:D->List bc->az->Hp->Prop}
structure MkL(K:c_)(p:bc)(ι:List bc)(S:az)(ρ:aF)(σ:St)(H:Hp)(xs:List D):Prop where
 rep:Rep K ι (cX H p) S
 re:RelE K ι (cX H p) ρ σ
 lst:∃vs,H p=ar (.lst vs)/\RelDs K ι (cX H p) xs vs
 out:p∉ι
abbrev KM:=List D->aF->M D
def DP(K:c_)(p:bc)(Q:D->List bc->az->Hp->Prop)(B:Nat)(bd:BM)(tb:IV):Prop:=
 ∀ ι S ρ σ H xs (k:KM) (N:St->Hp->Prop) (n:Nat),MkL K p ι S ρ σ H xs->xs.length<=n->n+B<=lim->cont K bS (bd ρ>>=λx=>k (xs++x.1) x.2) ι S (cX H p) Q->
  (∀ ι' S' ρ' σ' H' xs',MkL K p ι' S' ρ' σ' H' xs'->xs'.length<=n+B->Ext ι (cX H p) ι' (cX H' p)->cont K bS (k xs' ρ') ι' S' (cX H' p) Q->N σ' H')->tb σ H N
theorem IX:DP K p Q 1 (BH m) (BG p (tM K bS m)):=by
 intro ι S ρ σ H xs k N n mk L O c R;obtain⟨vs,T,U⟩:=mk.lst;have P:cont K bS (m ρ>>=λy=>k (xs++[y]) ρ) ι S (cX H p) Q:=by
  have:(BH m ρ>>=λx=>k (xs++x.1) x.2)=(m ρ>>=λy=>k (xs++[y]) ρ):=by show((m ρ>>=λy=>a_ ([y],ρ))>>=_)=_;rw[dY];rfl
  rw[<-this];exact c
 refine⟨ι,S,ρ,mk.rep.unhide,mk.re.unhide,aw (gv (E:=bS) (ai P) T mk.out) λy ι6 S6 H6 e6 rep6 ⟨hp6,hn6,c7⟩ yv ry=>?_⟩;have Y:Ext ι (cX H p) ι6 (cX H6 p):=e6.hide;have Z:=U.later mk.rep Y;have X:vs.length<sizeLine:=by rw[<-Z.length];exact Qf (by omega) CN
 refine⟨vs,hp6,X,R ι6 S6 ρ σ _ (xs++[y]) ⟨?_,?_,⟨vs++[yv],a8,?_⟩,hn6⟩ (by simp;omega) ?_ ?_⟩
 ·rw[eG];exact rep6.hide hp6 hn6
 ·rw[eG];exact(mk.re.unhide.later mk.rep.unhide e6).hide hp6
 ·rw[eG];exact Z.append (.cons (ry.hide hp6) .nil)
 ·rw[eG];exact Y
 ·rw[eG];exact c7
theorem wY{k:KM}{G:St->Hp->Prop}(e:jF K it J ι1 H1)(hB:DP K p Q B bd tb)
  (mk:MkL K p ι S ρ σ H xs) (e1:∀ ι2 Y,Ext ι (cX H p) ι2 (cX Y p)->ExtN ι1 H1 ι2 Y) (hl:xs.length<=n) (hn:n+it.items.length*B<=lim) (c:cont K bS (cB it g t bd it.items ρ>>=λx=>k (xs++x.1) x.2) ι S (cX H p) Q)
  (d:∀ ι' S' ρ' X U xs',MkL K p ι' S' ρ' X U xs'->xs'.length<=n+it.items.length*B->Ext ι (cX H p) ι' (cX U p)->cont K bS (k xs' ρ') ι' S' (cX U p) Q->G X U):
  Ag J (Ce K bS g) (yg K bS t) tb G σ H:=by
 refine⟨λi m T Y=>∃ ι2 S2 ρ2 xs2,m=it.items.length - i/\i<=it.items.length/\MkL K p ι2 S2 ρ2 T Y xs2/\xs2.length<=n+i*B/\Ext ι (cX H p) ι2 (cX Y p)/\
  cont K bS (cB it g t bd (it.items.drop i) ρ2>>=λx=>k (xs2++x.1) x.2) ι2 S2 (cX Y p) Q,⟨_,ι,S,ρ,xs,rfl,NN _,mk,by omega,.refl,c⟩,?_⟩
 rintro i m T Y ⟨ι2,S2,ρ2,xs2,hm,hi',mk2,hl2,e2,c2⟩;by_cases hlt:i<it.items.length
 ·have hd:it.items.drop i=it.items[i]::it.items.drop (i+1):=Pd hlt;rw[hd]at c2;have R:cont K bS (fW it>>=λ_=>g it.items[i] ρ2>>=λZ=>t Z>>=λb=>if b=cn then bd Z>>=λx=>(cB it g t bd (it.items.drop (i+1)) x.2>>=λy=>k (xs2++x.1++y.1) y.2)else cB it g t bd (it.items.drop (i+1)) Z>>=λx=>k (xs2++x.1) x.2) ι2 S2 (cX Y p) Q:=by
   have:(cB it g t bd (it.items[i]::it.items.drop (i+1)) ρ2>>=λx=>k (xs2++x.1) x.2)=(fW it>>=λ_=>g it.items[i] ρ2>>=λZ=>t Z>>=λb=>if b=cn then bd Z>>=λx=>(cB it g t bd (it.items.drop (i+1)) x.2>>=λy=>k (xs2++x.1++y.1) y.2)else cB it g t bd (it.items.drop (i+1)) Z>>=λx=>k (xs2++x.1) x.2):=by show((fW it>>=λ_=>g it.items[i] ρ2>>=λZ=>t Z>>=λb=>if b=cn then bd Z>>=λx=>cB it g t bd (it.items.drop (i+1)) x.2>>=λy=>a_ (x.1++y.1,y.2)else cB it g t bd (it.items.drop (i+1)) Z)>>=λx=>k (xs2++x.1) x.2)=_;simp only[dY,zM,aj,List.append_assoc]
   rw[<-this];exact c2
  obtain⟨ok,c3⟩:=jX R mk2.rep;obtain⟨A,a6⟩:=e ι2 Y S2 (e1 _ _ e2) mk2.rep.unhide ok i;obtain⟨go,yl⟩:=A it.items[i] (Np hlt);have P:n+i*B+B<=lim:=by have:(i+1)*B<=it.items.length*B:=Nat.mul_le_mul_right _ hlt;rw[PL]at this;omega
  refine .inr ⟨go,λX U=>∃ ι3 S3 ρ3 xs3,MkL K p ι3 S3 ρ3 X U xs3/\xs3.length<=n+(i+1)*B/\Ext ι (cX H p) ι3 (cX U p)/\cont K bS (cB it g t bd (it.items.drop (i+1)) ρ3>>=λx=>k (xs3++x.1) x.2) ι3 S3 (cX U p) Q,?_,λx f hy=>?_⟩
  ·rintro X U ⟨ι3,S3,ρ3,xs3,h1,h2,h3,h4⟩;exact⟨_,by omega,ι3,S3,ρ3,xs3,rfl,hlt,h1,h2,h3,h4⟩
  ·obtain⟨e3,rep3,rd⟩:=yl x f hy;obtain⟨vs,l,a⟩:=mk2.lst;have I:=mk2.out;obtain⟨o,_⟩:=e3.oth p _ l I (by intro _ z;cases z);have C:Ext ι2 (cX Y p) ι2 (cX f p):=e3.hide;have c4:=ai (gu c3 C);refine⟨ι2,S2,ρ2,it.items[i],rep3,mk2.re.unhide.later mk2.rep.unhide e3,rd,aw (gv (E:=bS) c4 o I) λρ4 ι4 S4 H4 e4 rep4 ⟨hp4,hn4,c5⟩ σ4 re4=>?_⟩;have h:Rep K ι4 (cX H4 p) S4:=rep4.hide hp4 hn4;have w:Ext ι2 (cX Y p) ι4 (cX H4 p):=C.trans e4.hide;refine⟨ι4,S4,ρ4,rep4,re4,aw (gv (E:=bS) (ai c5) hp4 hn4) λb ι5 S5 H5 e5 rep5 ⟨hp5,hn5,c6⟩=>?_⟩;have N:Rep K ι5 (cX H5 p) S5:=rep5.hide hp5 hn5;have O:Ext ι2 (cX Y p) ι5 (cX H5 p):=w.trans e5.hide;have v:RelE K ι5 H5 ρ4 σ4:=re4.later rep4 e5;have F:MkL K p ι5 S5 ρ4 σ4 H5 xs2:=⟨N,v.hide hp5,⟨vs,hp5,a.later mk2.rep O⟩,hn5⟩;cases b with
   |false=>
    have L:cont K bS (cB it g t bd (it.items.drop (i+1)) ρ4>>=λx=>k (xs2++x.1) x.2) ι5 S5 (cX H5 p) Q:=c6;exact⟨ι5,S5,ρ4,xs2,F,by rw[PL];omega,e2.trans O,L⟩
   |true=>
    have L:cont K bS (bd ρ4>>=λx=>(λys ρ'=>cB it g t bd (it.items.drop (i+1)) ρ'>>=λy=>k (ys++y.1) y.2) (xs2++x.1) x.2) ι5 S5 (cX H5 p) Q:=c6;refine hB ι5 S5 ρ4 σ4 H5 xs2 (λys ρ'=>cB it g t bd (it.items.drop (i+1)) ρ'>>=λy=>k (ys++y.1) y.2) _ (n+i*B) F hl2 P L λu S6 j b0 H6 r q b4 e6 c7=>?_;exact⟨u,S6,j,r,q,by rw[PL];omega,e2.trans (O.trans e6),c7⟩
 ·have hd:it.items.drop i=[]:=OM (by omega);rw[hd]at c2;have R:cont K bS (fW it>>=λ_=>k (xs2++[]) ρ2) ι2 S2 (cX Y p) Q:=by
   have:(cB it g t bd [] ρ2>>=λx=>k (xs2++x.1) x.2)=(fW it>>=λ_=>k (xs2++[]) ρ2):=by show((fW it>>=λ_=>a_ ([],ρ2))>>=λx=>k (xs2++x.1) x.2)=_;simp only[dY,aj]
   rw[<-this];exact c2
  obtain⟨ok,c3⟩:=jX R mk2.rep;rw[NT]at c3;have s:i=it.items.length:=by omega
  refine .inl ⟨(e ι2 Y S2 (e1 _ _ e2) mk2.rep.unhide ok i).2 (by omega),?_⟩;exact d ι2 S2 ρ2 T Y xs2 mk2 (by rw[<-s];exact hl2) e2 c3
theorem Ext.unhideP{H:Hp}(e:Ext ι (cX H p) ι' (cX H' p))(X:H p=ar (.lst ws)):ExtN ι H ι' H':=
 ⟨e.ids,λa o h n t l=>by
  have Z:a≠p:=λz=>by subst z;rw[X]at h;exact l ws (NP h).symm
  obtain⟨U,Y⟩:=e.oth a o (by rw[hide_ne Z];exact h) n t;exact⟨(cN U).2,Y⟩⟩
theorem KU:DP K p Q 3000 (KS mi g t m) (LG (JP K bS mi) (Ce K bS g) (yg K bS t) (BG p (tM K bS m))):=by
 intro ι S ρ σ H xs k N n mk z y c C;obtain⟨vs,O,P⟩:=mk.lst;have B:cont K bS (mi ρ>>=λit=>(if it.items.length<=3000 then cB it g t (BH m) it.items ρ else M.fail)>>=λx=>k (xs++x.1) x.2) ι S (cX H p) Q:=by
  have:(KS mi g t m ρ>>=λx=>k (xs++x.1) x.2)=(mi ρ>>=λit=>(if it.items.length<=3000 then cB it g t (BH m) it.items ρ else M.fail)>>=λx=>k (xs++x.1) x.2):=by show((mi ρ>>=λit=>_)>>=_)=_;rw[dY]
  rw[<-this];exact c
 refine⟨ι,S,ρ,mk.rep.unhide,mk.re.unhide,aw (gv (E:=bS) (ai B) O mk.out) λit ι1 S1 H1 e1 rep1 ⟨hp1,hn1,c1⟩ J hJ=>?_⟩;have Z:Ext ι (cX H p) ι1 (cX H1 p):=e1.hide;have T:MkL K p ι1 S1 ρ σ H1 xs:=⟨rep1.hide hp1 hn1,(mk.re.unhide.later mk.rep.unhide e1).hide hp1,⟨vs,hp1,P.later mk.rep Z⟩,hn1⟩;by_cases h:it.items.length<=3000
 ·rw[if_pos h]at c1;exact wY (k:=k) hJ IX T (λA w e=>e.unhideP hp1) z (by omega) c1 λY F ρ' U G R mk' L I X=>C Y F ρ' U G R mk' (by omega) (Z.trans I) X
 ·rw[if_neg h]at c1;exact(ah (ai c1)).elim
section
variable {X:Cx}{scope:Scope}{Nc:List Str}{js:List (Option Nat)}{elt tg iter tg2 iter2:Expr}{ifs ifs2:List Expr}{pos:Pos}{mi mi2:aF->M Iter}{g g2:mw}{t t2:aF->M Bool}{m:TM}
theorem BI{U:St}{H:Hp}{Q:VK}(h:tM X.K bS (m3 mi g t mi2 g2 t2 m js) U H Q):
  DN (JP X.K bS mi) js (Ce X.K bS g) (yg X.K bS t) (λp=>LG (JP X.K bS mi2) (Ce X.K bS g2) (yg X.K bS t2) (BG p (tM X.K bS m))) U H Q:=by
 obtain⟨ι,S,ρ,rep,re,c⟩:=h;refine⟨ι,S,ρ,rep,re,aw (ai c) λit N S1 R e1 rep1 c1 J F p T=>?_⟩;by_cases hl:it.items.length<=3000
 ·rw[if_pos hl]at c1;have Z:cX (upd R p (.lst [])) p=R:=by rw[eG,i5 T]
  refine wY (K:=X.K) (p:=p) (Q:=mz X.K Q) (n:=0) (xs:=[]) (k:=λxs _=>bx xs) (S:=S1) (ρ:=fS js ρ) F KU ⟨by rw[Z];exact rep1,by rw[Z];exact(re.later rep e1).blk js,⟨[],a8,by rw[Z];exact .nil⟩,rep1.free T⟩
   (λC A e=>by rw[Z]at e;exact e.unhide.n) (NN _) (by unfold lim;omega) (by rw[Z];exact c1) λI z ρ' G B L mk' O y E=>?_
  obtain⟨vs,Y,P⟩:=mk'.lst;have:=(bW E mk'.rep P).2 p lO;rw[v9 Y]at this;exact this
 ·rw[if_neg hl]at c1;exact(ah (ai c1)).elim
theorem rP(c:CompScope X scope Nc js)(T:X.calm=cn)(U:SI X bS tg iter mi)
  (Z:∀C ex s H,SG (aR X scope Nc C ex s H) bS tg g/\JQ (aR X scope Nc C ex s H) bS ifs t/\SI (aR X scope Nc C ex s H) bS tg2 iter2 mi2/\SG (aR X scope Nc C ex s H) bS tg2 g2/\JQ (aR X scope Nc C ex s H) bS ifs2 t2/\SE (aR X scope Nc C ex s H) bS elt m)
  (hs:∀x,g_ iter X.env x=a_ x:=by intro _;rfl) (Y:∀env x,g_ iter2 env x=a_ x:=by intro _ _;rfl):
  SE X bS (.ListComp elt [⟨tg,iter,ifs,0⟩,⟨tg2,iter2,ifs2,0⟩] scope pos) (m3 mi g t mi2 g2 t2 m js):=
 PE.imp (DO (wi2:=JP X.K bS mi2) (g:=Ce X.K bS g) (tt:=yg X.K bS t) (g2:=Ce X.K bS g2) (tt2:=yg X.K bS t2) (te:=tM X.K bS m) c T U Z hs Y) λ_ _ _ q=>BI q
end
end
end S3
namespace S7
open PySem PySem.Spec PyProof.Rows L2 S3
section
open Sem (wp)
section
variable {prog:eb}{w:eK}{A:gg}{E:aC->b_->Prop}{h:f'}{g:Array RW}{d:Drawn}{t:Nat}{os:R5}
variable {nm q:Str}{C N:bc}{bs bm bmB:List aC}{hdct:Bool}{sn:List Str}{sub:List aC}{ab:Bool}{col:Option Bool}{dd:Option bc}{k0 k1 k2 k3 k5:Option aC}{B Bn newId nid initId inN:String}{bmN:List aC}
end
section
variable {M:S9}{A:gg}{E:aC->b_->Prop}{env:Env}
variable {nm q:Str}{C N:bc}{bs bm:List aC}{hdct:Bool}{sn:List Str}{sub:List aC}{ab:Bool}{col:Option Bool}{dd:Option bc}{k0 k1 k2 k3 k5:Option aC}{newId:String}
end
section
variable {prog:eb}{w:eK}{A:gg}{E:aC->b_->Prop}{s:b_}{env:Env}
variable {nm q:Str}{C N:bc}{bs bm bmB:List aC}{hdct:Bool}{sn:List Str}{sub:List aC}{ab:Bool}{col:Option Bool}{dd:Option bc}{k0 k1 k2 k3 k5:Option aC}{B Bn newId nid initId inN:String}{bmN:List aC}
end
end
end S7
namespace S7
open PySem PySem.Spec PySem.W PyProof.Rows
section
open Builtin Builtin.ObjectAttr
def G6:List aC->Bool
 | .ref _:: .ref _::r=>r==[.type "ValueError",.type "Exception",.type "BaseException",.type "object"]
 |_=>dt
structure ExcS(K:Uk)(C:bc):Prop where
 sa:G_ K (.ref C) "__setattr__"=ar (ar (.builtin "object.__setattr__"))
 ob:TC K C (.type "object")=ar cn
 cd:∃cd,Ui K C=ar cd/\cd.hasDict=cn/\G6 cd.mro=cn
section
variable {prog:eb}{w:eK}{A:gg}{E:aC->b_->Prop}{s:b_}{K:Uk}{x C:bc}{o:Obj}{vs:Array aC}{mA:Str->Option aC}{name:Str}{v:aC}{R:TH->b_->Prop}
end
end
end S7
namespace S7
open PySem PySem.Spec PyProof.Rows L2 S3
def KW(C a t:bc)(od:Option bc):f'->Prop:=λh=>h.get? a=ar {cls:=.ref C,dict:=od,data:=.fields #[.ref t,.none,.none,.none,.bool dt,.none]}
def MC(dx:bc)(fs:List (Str×V)):f'->Prop:=λh=>∃mA,h.Ns1 dx mA/\(∀f,E8 (fs.lookup f) (mA f))/\PySem.Within mA (fs.map (·.1))
section
variable {X:Cx}{pins:List (bc×Obj)}{σ:L2.St}{H:Hp}{s:b_}{h':f'}{t':Nat}
end
section
variable {X:Cx}{o value:Expr}{ta tv:TE}{f:Str}{pos pos':Pos}
end
end S7
section
namespace S7
open PySem PySem.Spec PyProof.Rows L2 S3
def F7(K:c_)(C f:bc):Bool:=match K.lookup C with
 |some ⟨.type "type",_,.cls cd,sl⟩=>(match cd.mro,sl.toList with
  | .ref C'::bm,[_,_,_,_,ar (.builtin n),_]=>C'==C && n=="ValueError.__new__" && !cd.hasDel && W.tailIn K KN bm && W.nsOkIn K cd.ns && z5 K cd.ns "__init__"==ar (ar (.ref f)) && cd.hasDict && G6 cd.mro
  |_,_=>dt) && (R0 K (.ref C) "__setattr__"==ar (ar (.builtin "object.__setattr__"))) && (match K.lookup f with|some o=>o.cls== .type "function"|none=>dt)
 |_=>dt
def Nd(C:bc):Sp:=λvs H Q _=>∃e t v1 v2,vs=[.ref e,v1,v2]/\H e=ar (.ext (KW C e t none))/\∀dx,H dx=none->dx≠e->Q .non (upd (upd H dx (.ext (MC dx [("many",v1),("most",v2)]))) e (.ext (KW C e t (ar dx))))
section
variable {X:Cx}{Ek:XK}
end
end S7
end
namespace S7
open PySem PySem.Spec PyProof.Rows L2 S3
section
variable {X:Cx}{E:XD}{pins:List (bc×Obj)}{σ:L2.St}{H:Hp}{s:b_}
end
section
variable {X:Cx}{E:XD}{st:p_}{m:TM}{i:Nat}
theorem RelE.all{K:c_}{ι Z:List bc}{H U:Hp}{n:Nat}(Y:∀e v,fY n e=cn->RelD K ι H e v->RelD K Z U e v):
  ∀{ρ:aF} {σ:L2.St},RelE K ι H ρ σ->(∀e,ar e∈ρ->fY n e=cn)->RelE K Z U ρ σ
 |[],_,h,_=>by cases h;exact .nil
 |_::ρ,_,.cons h t,c=>.cons (λd' z=>by obtain⟨v,e1,e2⟩:=h _ z;exact⟨v,e1,Y _ v (c d' (by rw[z];exact NF ..)) e2⟩) (RelE.all Y t λe z=>c e (Nx _ z))
theorem RelE.swap{K:c_}{ι Z:List bc}{H U:Hp}{n:Nat}{d u:D}(T:∀v,RelD K ι H d v->RelD K Z U u v)(Y:∀e v,fY n e=cn->RelD K ι H e v->RelD K Z U e v):
  ∀{ρ:aF} {i:Nat} {σ:L2.St},RelE K ι H (ρ.set i (ar d)) σ->(∀e,ar e∈ρ->fY n e=cn)->RelE K Z U (ρ.set i (ar u)) σ
 |[],_,_,h,_=>by cases h;exact .nil
 |_::ρ,0,_,.cons h t,c=>.cons (λd' z=>by cases z;obtain⟨v,e1,e2⟩:=h _ rfl;exact⟨v,e1,T v e2⟩) (RelE.all Y t λe z=>c e (Nx _ z))
 |_::ρ,i+1,_,.cons h t,c=>.cons (λd' z=>by obtain⟨v,e1,e2⟩:=h _ z;exact⟨v,e1,Y _ v (c d' (by rw[z];exact NF ..)) e2⟩) (RelE.swap T Y (ρ:=ρ) (i:=i) t λe z=>c e (Nx _ z))
theorem i9(h:SS X E st (bC i m)):SS X E st (bC i (aQ m)):=by
 intro pins s σ H T I L;obtain⟨ι,S,ρ,rep,re,r,G,A,k⟩:=L;have Z:(kK (m ρ)>>=λd=>(a_ (Out.nx (ρ.set i (ar d))):M Out)) S=ar (r,G):=A;have F:∀(c:M D),(c>>=λd=>(a_ (Out.nx (ρ.set i (ar d))):M Out)) S=(match c S with|some (.ok d,S1)=>ar (.ok (Out.nx (ρ.set i (ar d))),S1)|some (.ex x,S1)=>ar (.ex x,S1)|none=>none):=λc=>by
  show M.bnd c _ S=_;unfold M.bnd;cases c S with
  |none=>rfl
  |some p=>obtain⟨r,S1⟩:=p;cases r<;>rfl
 rw[F]at Z;unfold kK at Z;cases q:m ρ S with
 |none=>rw[q]at Z;cases Z
 | some p=>
  obtain⟨o,N⟩:=p;rw[q]at Z;have O:bC i m ρ S=_:=F (m ρ);rw[q]at O;cases o with
  |ex x=>
   cases Z;exact h pins s σ H T I ⟨ι,S,ρ,rep,re,.ex x,_,O,k⟩
  | ok d=>
   dsimp only at Z;by_cases hl:N.length<=S.length
   ·rw[if_pos hl]at Z;cases Z;exact h pins s σ H T I ⟨ι,S,ρ,rep,re,_,_,O,k⟩
   ·rw [if_neg hl]at Z;by_cases hk:rO S N
    ·rw [if_pos hk]at Z;cases z:jI S.length (xR N S.length 60) d with
     |none=>rw[z]at Z;cases Z
     | some u=>
      rw[z]at Z;cases Z;refine dJ (h pins s σ H {nx:=λW Q=>∃P:List bc,∀os,T.nx W (mE P os Q),rt:=λ_ _=>False} I ⟨ι,S,ρ,rep,re,_,_,O,λR Q x Y W J=>?_⟩) λf s' hf=>?_
      ·refine⟨R.drop ι.length,λos=>?_⟩;obtain⟨l,rep2⟩:=wV rep x Y hk os;have U:Rep X.K ι (mE (R.drop ι.length) os Q) (N.take S.length):=by rw[<-rep.len];exact rep2
       have L:R.take ι.length=ι:=by obtain⟨more,rfl⟩:=x.ids;simp
       refine k ι _ l U W ?_;refine RelE.swap (n:=ι.length) (d:=d) (u:=u) (λv y=>?_) (λe v c r=>?_) J λe z=>?_
       ·have:=yM (n:=ι.length) (os:=os) (λk us a=>by rw[rep.len];exact Af Y 60 k us a) Y.nd y (by rw[rep.len];exact z);rw[L]at this;exact this
       ·have:=RelD.down (n:=ι.length) (os:=os) r c;rw[L]at this;exact this
       ·obtain⟨j,C⟩:=List.getElem?_of_mem z;obtain⟨v,_,r⟩:=re.get C;exact r.cl
      ·cases f with
       |next=>
        obtain⟨W,Q,B,P,w⟩:=hf;obtain⟨os,t⟩:=Inv.fz B P;exact⟨W,_,t,w os⟩
       |ret v=>obtain⟨_,_,_,_,_,z⟩:=hf;exact z.elim
       |brk=>obtain⟨_,_,_,z⟩:=hf;exact z.elim
       |cont=>obtain⟨_,_,_,z⟩:=hf;exact z.elim
    ·rw[if_neg hk]at Z;cases Z
end
structure GrX(P:eb)(w:eK)(K:c_)(mg:Str->Option aC)(base:f'):Prop where
 ex:∃C f fd,z5 K gd "TooGreat"=ar (ar (.ref C))/\F7 K C f=cn/\FnOk P w K mg base (om P w) 1 f fd ["self","many","most"] (Nd C)/\Binds K fd ["self","many","most"] []
section
variable {X:Cx}{Ek:XK}
end
theorem DefX.none{P:eb}{w:eK}{K:c_}{Y:Str->Option aC}{base:f'}{k:Nat}{x qual:Str}{S:p_}{f:bc}{Z:fg}{X:List Str}(F:Fun K x qual S f Z)(U:Y x=ar (.ref f))(T:Binds K Z X []):DefX P w K Y base k x X (λ_=>M.fail):=
 ⟨f,Z,⟨λvs H Q E ⟨_,_,_,_,_,h⟩=>(ah h).elim,λA outer s H args us vs Q E _ _ _ _ ⟨_,_,_,_,_,h⟩=>(ah h).elim⟩,U,F.kp,T⟩
def MD(K:c_):Bool:=bt.all λn=>match z5 K gd n with
 |some (ar (.ref C))=>(match W.clsIn K C with|some cd=>cd.hasDict|none=>cn)
 |_=>cn
section
variable {X:Cx}{E:XD}
end
end S7
namespace S3
open PySem PySem.Spec PyProof.Rows L2 S4
mutual
theorem yR:∀d,fY n d=cn->jI n g d=ar d
 | .lst k,h=>by unfold fY at h;unfold jI;rw[if_pos (Om h)]
 | .tup ds,h=>by unfold fY at h;unfold jI;rw[jv ds h];rfl
 | .ro ds,h=>by unfold fY at h;unfold jI;rw[jv ds h];rfl
 | .fz ds,h=>by unfold fY at h;unfold jI;rw[jv ds h];rfl
 | .fn _ _ _ ds _,h=>by unfold fY at h;unfold jI;rw[jv ds h];rfl
 | .exc _ ds,h=>by unfold fY at h;unfold jI;rw[jv ds h];rfl
 | .non,_=>by unfold jI;rfl
 | .bl _,_=>by unfold jI;rfl
 | .int _,_=>by unfold jI;rfl
 | .str _,_=>by unfold jI;rfl
 | .emp,_=>by unfold jI;rfl
theorem jv:∀ds,bY n ds=cn->hU n g ds=ar ds
 |[],_=>by unfold hU;rfl
 |d::ds,h=>by
  unfold bY at h;rw[OA]at h;unfold hU;rw[yR d h.1,jv ds h.2]
end
mutual
theorem DQ(Z:m<=n):∀d,fY m d=cn->fY n d=cn
 | .lst k,h=>by unfold fY at h⊢;exact NI (NC (Om h) Z)
 | .tup ds,h=>by unfold fY at h⊢;exact lr Z ds h
 | .ro ds,h=>by unfold fY at h⊢;exact lr Z ds h
 | .fz ds,h=>by unfold fY at h⊢;exact lr Z ds h
 | .fn _ _ _ ds _,h=>by unfold fY at h⊢;exact lr Z ds h
 | .exc _ ds,h=>by unfold fY at h⊢;exact lr Z ds h
 | .non,_=>by unfold fY;rfl
 | .bl _,_=>by unfold fY;rfl
 | .int _,_=>by unfold fY;rfl
 | .str _,_=>by unfold fY;rfl
 | .emp,_=>by unfold fY;rfl
theorem lr(Z:m<=n):∀ds,bY m ds=cn->bY n ds=cn
 |[],_=>by unfold bY;rfl
 |d::ds,h=>by
  unfold bY at h⊢;rw[OA]at h⊢;exact⟨DQ Z d h.1,lr Z ds h.2⟩
end
section
variable {c:M D}{S:az}{Q:D->az->Prop}{v:D}
theorem Ah:kK (a_ v)=a_ v:=by funext S;show(if S.length<=S.length then _ else _)=_;rw[if_pos (Nq _)];rfl
theorem DR:kK (M.raise x)=M.raise x:=rfl
theorem oQ(e:c S=ar (.ok d,S'))(Y:rO S S')(X:S.length<S'.length\/u=d)(W:S.length<=S'.length)(Z:jI S.length (xR S' S.length 60) d=ar u):kK c S=ar (.ok u,S'.take S.length):=by
 unfold kK;rw[e];dsimp only;by_cases h:S'.length<=S.length
 ·have hd:u=d:=X.resolve_left (by omega);rw[if_pos h,hd,PB h]
 ·rw[if_neg h,if_pos Y,Z]
theorem yS:rO S (S++G):=λk xs Z e=>.inl (by rw[NZ Z]at e;exact e)
theorem DS(h:runs c S λd Z=>∃G p us,d= .lst p/\Z=S++G/\Z[p]? =ar us/\S.length<=p/\bY S.length us=cn/\Q (.fz us) S):runs (kK c) S Q:=by
 obtain⟨d,Z,e,G,p,us,rfl,rfl,Y,U,W,q⟩:=h;have X:=(Nt.mp Y).1;refine⟨.fz us,S,?_,q⟩;have:=oQ (u:=.fz us) e yS (.inl (by omega)) (by simp) (by unfold jI;rw[if_neg (by omega)];show(((S++G)[p]?).bind λxs=>hU S.length (xR (S++G) S.length 59) xs).map D.fz=_;rw[Y,Pu,jv us W];rfl)
 rw[this];simp
theorem cO{α:Type}{c:M α}{v:α}(h:∀S,runs c S λd Z=>d=v/\Z=S):c=a_ v:=by funext S;obtain⟨d,Z,e,rfl,rfl⟩:=h S;exact e
theorem nX(Y:bY 0 us=cn)(h:∀S,runs c S λd Z=>∃G p,d= .lst p/\Z=S++G/\Z[p]? =ar us/\S.length<=p):kK c=a_ (.fz us):=
 cO λS=>DS (Bw (h S) λd Z ⟨G,p,e1,e2,e3,e4⟩=>⟨G,p,us,e1,e2,e3,e4,lr (NN _) us Y,rfl,rfl⟩)
theorem e9(Z:bY 0 us=cn)(Y:us.length<=lim):kK (bx us)=a_ (.fz us):=
 nX Z λS=>Bx.mpr ⟨Y,[us],S.length,rfl,rfl,by simp,Nq _⟩
end
theorem cQ:fW ⟨its,.none⟩=a_ ():=by funext S;unfold fW;rw[if_pos (show Iter.okS ⟨its,.none⟩ S from trivial)];rfl
section
variable {its:List D}{g:mw}{t:aF->M Bool}{m:TM}
theorem wZ(R:aF->Prop)(q:D->Bool)(f:D->D):∀(items:List D) (ρ:aF),R ρ->(∀d∈items,∀ ρ,R ρ->∃Z,g d ρ=a_ Z/\R Z/\t Z=a_ (q d)/\(q d=cn->m Z=a_ (f d)))->
  cF ⟨its,.none⟩ g t m items ρ=a_ ((items.filter q).map f)
 |[],ρ,_,_=>by unfold cF;rw[cQ];rfl
 |d::ds,ρ,hR,hb=>by
  obtain⟨Z,e1,Y,e2,e3⟩:=hb d (NF ..) ρ hR;have X:=wZ R q f ds Z Y λx W=>hb x (Nx _ W);unfold cF;rw[cQ,aj,e1,aj,e2,aj,X];cases hq:q d with
  |true=>rw[OK hq,if_pos rfl,e3 hq,aj];rfl
  |false=>rw[Oo (by rw[hq];decide),if_neg (by decide)]
theorem Ai(R:aF->Prop)(q:D->Bool)(f:D->D)(X:its.length<=lim)(Z:R ρ)(Y:∀d∈its,∀ ρ,R ρ->∃ ρ1,g d ρ=a_ ρ1/\R ρ1/\t ρ1=a_ (q d)/\(q d=cn->m ρ1=a_ (f d))):
  eV ⟨its,.none⟩ g t m ρ=a_ ((its.filter q).map f):=by
 unfold eV;rw[if_pos X];exact wZ R q f its ρ Z Y
end
end S3
namespace S7
open PySem PySem.Spec PyProof.Rows L2 S3
section
variable {X:Cx}{E:XD}{k i jn jy:Nat}{a c':bc}{ql:Str}{ds:List D}{vs:List V}{m:TM}{x n y cx:Str}{p cpos epos np p1 p2 p3 hpos tpos:Pos}
end
section
variable {X:Cx}{x ql:Str}{k k0 i:Nat}{a c':bc}{ps:List Str}{R:D->M D->List D->M D}{R':M D->List D->M D}{p pos:Pos}{e:Expr}{es:List Expr}{ms:S3.aF->M (List D)}{m:TM}{ds:List D}{vs:List V}
end
section
variable {X:Cx}{E:XD}{pos:Pos}
def ME(K:c_)(n:Nat)(t:EY):TG:=λv σ H Q=>∃a xs,v= .ref a/\kS K H a xs/\xs.length=n/\t xs σ H Q
theorem IY(S:X.calm=cn)(h:Cm X es t)
  (N:(m1 es X.env).length=n:=by rfl) (Z:(m1 es X.env).findIdx? (·.1)=none:=by rfl):PG X (.Tuple es k pos) (ME X.K n t):=by
 intro pins s σ H v u Q I r hw;obtain⟨a,xs,e1,R,G,hw⟩:=hw;subst e1;cases r;obtain⟨its,Y,L,F⟩:=I.list R;have U:s.heap.IsList a its.toArray:=by obtain⟨o,P,e1,e2,e3,O⟩:=L;exact⟨o,e1,e2,P,O⟩
 rw[assign_Tuple];refine Nk (Pa ?_);unfold unpack;rw[show(m1 es X.env).length=its.toArray.size by simp[N, <-G,Y.length],Z];refine Nk (Oi (W.kun_itemsOf (I.ok.hd S) U λh' J=>?_));have T:L2.Inv X pins σ H {s with heap:=h'}:=I.kept (t':=s.toks) λb o e=>J b o (NB (Nu e)) e;exact h pins _ σ H xs _ Q T (by simpa using Y) hw
def rQ(n:Nat)(gs:List D->S3.aF->M S3.aF):mw:=λd ρ=>match d with
 | .fz ds=>if ds.length=n then gs ds ρ else M.fail
 |_=>M.fail
theorem DT(W:X.calm=cn)(h:Kx X E es gs)(Y:(m1 es X.env).length=n:=by rfl)(Z:(m1 es X.env).findIdx? (·.1)=none:=by rfl):
  SG X E (.Tuple es k pos) (rQ n gs):=by
 refine PG.imp (IY W h Y Z) λv σ H Q q=>?_;obtain⟨ι,S,ρ,d,rep,re,r,c⟩:=q;cases d with
 |fz ds=>
  cases r with
  |fz h1 h2=>
  dsimp only[rQ]at c;split at c
  ·next hl=>exact⟨_,_,rfl,.inl (.inr ⟨_,h1⟩),by rw[<-h2.length];exact hl,ι,S,ρ,ds,rep,re,h2,c⟩
  ·exact(ah c).elim
 |_=>exact(ah c).elim
end
section
variable {P:eb}{w:eK}{K:c_}{mg:Str->Option aC}{base:f'}
end
abbrev pin(X:Cx)(os:List (bc×Obj)):Cx:={X with pn:=os++X.pn}
structure LmS where
 params:RL
 body:Expr
 scope:Scope
 N3:List Str
 js:List Nat
 m:TM
structure FI where
 f:bc
 c:bc
 pm:aC
 ctv:aC
abbrev Cj(cells:List (Str×bc))(ql:Str)(p:LmS×FI):bc×Obj:=(p.2.f,B_ "<lambda>" ql p.1.params p.1.body p.1.scope (kU cells p.1.scope.names []) p.2.pm p.2.c p.2.ctv)
structure LmOk(X:Cx)(ql:Str)(k0:Nat)(L:LmS):Prop where
 sc:LamScope X L.scope L.N3 L.js
 df:defaultsOf L.params X.env=([],[])
 bd:∀(c':bc) (cl:List (Str×bc)) (pm ctv:aC),Ta (T3 "<lambda>" ql L.params L.body L.scope cl pm (.ref c') ctv) ⟨[],[]⟩=a_ []
 lam:∀(base:f'),Mod X.K X.mg base->∀(f c':bc) (cl:List (Str×bc)) (A:gg) (outer:List Env) (s:b_) (H:Hp) (Ek:XK),Room k0 (A.deeper (ll ql L.scope f c' cl s))->SE (wL X.prog X.w X.K X.mg base L.N3 ql L.scope f c' cl A outer s H Ek) (Ci X.K Ek) L.body L.m
def mF:List (List Nat×TM)->S3.aF->Option (List (M D))
 |[],_=>ar []
 |(js,m)::r,ρ=>match yJ js ρ,mF r ρ with
  |some ds,ar cs=>ar (m (ds.map ar)::cs)
  |_,_=>none
def pW(R:M D->List D->M D):List (M D)->M (List D)
 |[]=>a_ []
 |c::cs=>do let y<-R c [];let ys<-pW R cs;a_ (y::ys)
def ja(cs:List (List Nat×TM))(R:M D->List D->M D):TM:=λρ=>match mF cs ρ with
 |some l=>(do let ys<-pW R l;bx ys)
 |none=>M.fail
abbrev F8(L:LmS):List Nat×TM:=(L.js,L.m)
section
variable {X:Cx}{pins os:List (bc×Obj)}{σ:L2.St}{H:Hp}{s:b_}
theorem ki(I:L2.Inv X (os++pins) σ H s):L2.Inv (pin X os) pins σ H s:=
 ⟨⟨I.ok.mod,I.ok.kind,I.ok.glob,I.ok.blt,I.ok.above,I.ok.inj,I.ok.has,I.ok.cab,I.ok.hd,I.ok.frames,I.ok.stk,I.ok.exf,I.ok.bs,I.ok.bsz,I.ok.noex,I.ok.exfs,I.ok.funs,I.ok.frf⟩,I.os,I.bare,I.base,I.loc,I.cell,I.free,I.freeC,(λp Z=>I.pin p (by
  simp only[EW]at Z⊢;rcases Z with(h|h)|h
  ·exact .inr (.inl h)
  ·exact .inl h
  ·exact .inr (.inr h))),I.hok,I.len⟩
theorem gC(I:L2.Inv (pin X os) pins σ H s):L2.Inv X (os++pins) σ H s:=
 ⟨⟨I.ok.mod,I.ok.kind,I.ok.glob,I.ok.blt,I.ok.above,I.ok.inj,I.ok.has,I.ok.cab,I.ok.hd,I.ok.frames,I.ok.stk,I.ok.exf,I.ok.bs,I.ok.bsz,I.ok.noex,I.ok.exfs,I.ok.funs,I.ok.frf⟩,I.os,I.bare,I.base,I.loc,I.cell,I.free,I.freeC,(λp Z=>I.pin p (by
  simp only[EW]at Z⊢;rcases Z with h|h|h
  ·exact .inl (.inr h)
  ·exact .inl (.inl h)
  ·exact .inr h)),I.hok,I.len⟩
theorem nY(I:L2.Inv X (os++pins) σ H s):L2.Inv X pins σ H s:=I.pins_of λp Z=>I.pin p (by rw[Oj,Oj];exact .inr (.inr Z))
end
structure Zi where
 q:LmS×FI
 ds:List D
 vs:List V
abbrev Zi.it(ql:Str)(z:Zi):D:=.fn z.q.2.f z.q.2.c ql z.ds z.vs
structure ZOk(K:c_)(ι:List bc)(H:Hp)(ρ:S3.aF)(σ:L2.St)(z:Zi):Prop where
 cap:yJ z.q.1.js ρ=ar z.ds
 rel:RelDs K ι H z.ds z.vs
 len:z.vs.length=z.q.1.js.length
 val:∀(i j:Nat) (v:V),z.q.1.js[i]? =ar j->z.vs[i]? =ar v->σ[j]? =ar (ar v)
theorem rR{K:c_}{ι:List bc}{H:Hp}{ρ:S3.aF}{X:L2.St}(U:RelE K ι H ρ X):∀{P:List (LmS×FI)} {l:List (M D)},mF (P.map λp=>F8 p.1) ρ=ar l->
  ∃Z:List Zi,Z.map (·.q)=P/\l=Z.map (λz=>z.q.1.m (z.ds.map ar))/\∀z∈Z,ZOk K ι H ρ X z
 |[],l,e=>by cases e;exact⟨[],rfl,rfl,λz Y=>by cases Y⟩
 | p::P,l,e=>by
  rw[NH]at e;unfold mF at e;split at e
  ·next ds cs e1 e2=>
   cases e;obtain⟨Z,S,R,T⟩:=rR U e2;obtain⟨vs,g1,g2,g3⟩:=Ab U e1;exact⟨⟨p,ds,vs⟩::Z,by rw[NH,S],by rw[NH,R],λz Y=>by
    rcases NJ.mp Y with rfl|Y
    ·exact⟨e1,g1,g2,g3⟩
    ·exact T z Y⟩
  ·cases e
open Classical in
def findZ(ql:Str)(d:D):List Zi->Option Zi
 |[]=>none
 |z::r=>if z.it ql=d then ar z else findZ ql d r
theorem m4{ql:Str}{d:D}{y:Zi}:∀{Z:List Zi},findZ ql d Z=ar y->y∈Z/\y.it ql=d
 |[],e=>by cases e
 |z::r,e=>by
  unfold findZ at e;split at e
  ·next h=>cases e;exact⟨.head _,h⟩
  ·exact let ⟨a,b⟩:=m4 e;⟨.tail _ a,b⟩
theorem w5{ql:Str}{z:Zi}:∀{Z:List Zi},z∈Z->∃y,findZ ql (z.it ql) Z=ar y
 | a::r,h=>by
  unfold findZ;split
  ·exact⟨_,rfl⟩
  ·next hn=>
   rcases NJ.mp h with rfl|h
   ·exact absurd rfl hn
   ·exact w5 h
def mZ(ql:Str)(Z:List Zi)(R:M D->List D->M D):TM:=λρ=>match ρ with
 |[ar d]=>(match findZ ql d Z with
  |some z=>R (z.q.1.m (z.ds.map ar)) []
  |none=>M.fail)
 |_=>M.fail
theorem KY{ql:Str}{Z:List Zi}{R:M D->List D->M D}(S:(Z.map (·.q.2.f)).Nodup){z:Zi}(X:z∈Z):mZ ql Z R [ar (z.it ql)]=R (z.q.1.m (z.ds.map ar)) []:=by
 obtain⟨y,hf⟩:=w5 (ql:=ql) X;obtain⟨U,e⟩:=m4 hf;have e1:y.q.2.f=z.q.2.f:=by injection e
 have key:∀{l:List Zi},(l.map (·.q.2.f)).Nodup->y∈l->z∈l->y=z:=λ{l}=>by
  induction l with
  |nil=>intro _ h;cases h
  |cons a l ih=>
   intro Y T W;rw[NH,Ol]at Y;rcases NJ.mp T with r1|r1<;>rcases NJ.mp W with r2|r2
   ·rw[r1,r2]
   ·exact absurd (NL.mpr ⟨z,r2,by rw[<-r1];exact e1.symm⟩) Y.1
   ·exact absurd (NL.mpr ⟨y,r1,by rw[<-r2];exact e1⟩) Y.1
   ·exact ih Y.2 r1 r2
 unfold mZ;dsimp only;rw[hf,key S U X]
theorem G7{ql:Str}{Z:List Zi}{R:M D->List D->M D}(X:(Z.map (·.q.2.f)).Nodup){its:List D}:∀(Y:List Zi) (x:Option D),(∀z∈Y,z∈Z)->cF ⟨its,.none⟩ (gN 0) (λ_=>a_ cn) (mZ ql Z R) (Y.map (·.it ql)) [x]=pW R (Y.map λz=>z.q.1.m (z.ds.map ar))
 |[],x,_=>by
  unfold cF pW;rw[show fW ⟨its,.none⟩=a_ () by funext S;unfold fW;rw[if_pos (show Iter.okS ⟨its,.none⟩ S from trivial)];rfl];rfl
 |z::Y,x,h=>by
  rw[NH,NH];unfold cF pW;rw[show fW ⟨its,.none⟩=a_ () by funext S;unfold fW;rw[if_pos (show Iter.okS ⟨its,.none⟩ S from trivial)];rfl,aj];show(gN 0 (z.it ql) [x]>>=_)=_;rw[show gN 0 (z.it ql) [x]=a_ [ar (z.it ql)]from rfl,aj,aj,if_pos rfl,KY X (h z (.head _))];congr 1;funext y;rw[G7 X Y (ar (z.it ql)) λa W=>h a (.tail _ W)]
section
variable {X:Cx}{R call y ql:Str}{k k0 j:Nat}{ps:List Str}{RR:D->M D->List D->M D}{R':M D->List D->M D}{scope:Scope}{rp cp cpos tp ip pos:Pos}{P:List (LmS×FI)}
theorem F9{Z:List Zi}{σ:L2.St}{ρ:S3.aF}{c1:List bc}{H0:Hp}{O:List (bc×Obj)}{C:bc}{ex:List bc}{T:b_}{S:Hp}(d:RefX X.prog X.w X.K X.mg k (k0+1) R ps RR)(hR:∀f c es,RR f c es=R' c es)(hr:Room k X.A)(b4:∀x,X.fn x=cn)
  (hZ:∀z∈Z,ZOk X.K c1 H0 ρ σ z/\LmOk X ql k0 z.q.1/\Cj X.env.cells ql z.q∈O) (Q:L2.Inv X O σ S T) (f3:∀b∈ex,j7 X O S b)
  (hn:PA (aR X scope [call] C ex T S) [.Name call cp] (zA (xT 0) Fk)) (hg:Gl (aR X scope [call] C ex T S) R) (b6:(R==("__debug__":Str))=dt)
  (he:dV [.Name call cp] (aR X scope [call] C ex T S).env=[(dt,hO (.Name call cp) (aR X scope [call] C ex T S).env)]):
  PE (aR X scope [call] C ex T S) (.Call (.Name R rp) [.Name call cp] [] cpos) (tM X.K bS (mZ ql Z R')):=by
 intro B s2 b2 l Q2 Ic hq;obtain⟨E,S2,I,rep2,c7,(U:cont X.K bS (mZ ql Z R' I) E S2 l (mz X.K Q2))⟩:=hq;obtain⟨fr,fd,hm,hk,hb,F⟩:=d.ex;obtain⟨dd,rfl⟩:∃dd,I=[ar dd]:=by
  match I,U with
  |[],U=>exact(ah U).elim
  |[none],U=>exact(ah U).elim
  |[ar dd],_=>exact⟨dd,rfl⟩
  |none::_::_,U=>exact(ah U).elim
  |some _::_::_,U=>exact(ah U).elim
 cases hf:findZ ql dd Z with
 |none=>
  unfold mZ at U;dsimp only at U;rw[hf]at U;exact(ah U).elim
 |some z=>
 unfold mZ at U;dsimp only at U;rw[hf]at U;dsimp only at U;obtain⟨hz,e⟩:=m4 hf;subst e;obtain⟨zo,lo,J⟩:=hZ z hz;obtain⟨v,e1,rv⟩:=c7.get (i:=0) rfl;obtain⟨rfl,b0,b1⟩:v= .ref z.q.2.f/\l z.q.2.c=ar (.ext (pR ql z.q.2.c))/\RelDs X.K E l z.ds z.vs:=by
  cases rv with
  |fn h1 h2=>exact⟨rfl,h1,h2⟩
 refine PC (ny Ic hg hm ?_ b6);refine W.callWith_K (h₀:=X.base) Ic.ok.mod.kin hk (dJ (hn cpos B s2 b2 l (λws L=>ws=[.ref z.q.2.f]/\L=l) Ic ⟨_,e1,rfl,rfl⟩) λus s4 h4=>?_) he rfl;obtain⟨ws,L,t,c4,rfl,rfl⟩:=h4;obtain⟨u,rfl,ru⟩:=c4.one;cases ru;refine⟨t.kIn,?_⟩;obtain⟨po,pn,pl,pf,_⟩:=Q.pin _ (NG _ J);have kept:∀c o,T.heap.get? c=ar o->S c=none->c∉kP X.stack->c∉ex->(jH (aR X scope [call] C ex T S) L s4.heap).get? c=ar o:=λc o e n hs hx=>
  rN (t.base.keep c o e n hs hx) (t.base.free c o e n hx) hs
 have nf:z.q.2.f∉kP X.stack:=λw=>by
  rcases NJ.mp (Q.stkSub _ w)with w|w
  ·exact pl w
  ·exact pf w
 have nx:z.q.2.f∉ex:=λw=>(f3 _ w).2.2.2.2.2 _ (NG _ J) rfl;have cellK:∀x c v,X.env.cells.lookup x=ar c->T.heap.IsCell c v->(jH (aR X scope [call] C ex T S) L s4.heap).IsCell c v:=λx c v e ⟨o,h1,h2⟩=>by
  refine⟨o,kept c o h1 (Q.freeC x c e) (λw=>?_) (λw=>(f3 _ w).2.2.2.2.1 x c e rfl),h2⟩;rcases NJ.mp (Q.stkSub c w)with w|w
  ·exact Q.cne x c e w
  ·obtain⟨_,ob,q,_⟩:=Q.ok.funs.mem w;exact absurd (Nu q) (RF.mpr (Q.ok.cab x c (b4 x) e))
 have ls:=lo.sc;have p:∀y∈z.q.1.scope.names,y.2= .free->∃a,X.env.cells.lookup y.1=ar a:=λy hy e=>Q.ok.has y.1 (ls.free y hy e);have c5:=uC (cells:=X.env.cells) z.q.1.scope.names [] p (λ_ z=>nomatch z);have Y:∀y a,(kU X.env.cells z.q.1.scope.names []).lookup y=ar a->X.env.cells.lookup y=ar a:=λy a e=>c5 _ (lookup_mem e);have cp:Caps (jH (aR X scope [call] C ex T S) L s4.heap) z.q.1.scope (kU X.env.cells z.q.1.scope.names []) z.q.1.N3 z.vs:=by
  refine⟨ls.kind,ls.nocell,ls.co,ls.gen,λy w a e1 e2=>Q.ok.inj y w a (Y y a e1) (Y w a e2),λy e=>mem_lookup (kX z.q.1.scope.names [] (.inl (bz e))),λy a e=>?_,by rw[zo.len];exact ls.len,λi y v e1 e2=>?_⟩
  ·obtain⟨v,w⟩:=Q.cell y a (Y y a e);exact⟨v,cellK y a v (Y y a e) w⟩
  ·have b3:i<z.q.1.js.length:=by rw[<-zo.len];exact(Nt.mp e2).1
   obtain⟨h,hj⟩:∃h,z.q.1.js[i]? =ar h:=⟨_,Np b3⟩;obtain⟨g1,g2⟩:=ls.ix i y h e1 hj;have hv:=zo.val i h v hj e2;have a3:=ls.free (y,.free) (bz g2) rfl;have g:GT X.env.scope y:=by
    rcases a3 with w|w
    ·exact .inr (.inl w)
    ·exact .inr (.inr w)
   obtain⟨mm,g5,hl⟩:=Q.loc;obtain⟨u,ru,lk⟩:=hl h y v g1 hv g;refine⟨g2,?_⟩;rcases lk with⟨w,_⟩|⟨_,a,ea,hca⟩
   ·have w':X.env.kindOf y=ar .local:=w;rcases a3 with w2|w2
    ·have w3:X.env.kindOf y=ar .cell:=w2;rw[w']at w3;cases w3
    ·have w3:X.env.kindOf y=ar .free:=w2;rw[w']at w3;cases w3
   ·obtain⟨a2,a0⟩:=mem_lookup (kX (cells:=X.env.cells) z.q.1.scope.names [] (.inl (bz g2)));have:=Y y a2 a0;rw[ea]at this;cases this;exact⟨a,u,a0,ru,cellK y a _ ea hca⟩
 have M4:Mod X.K X.mg (jH (aR X scope [call] C ex T S) L s4.heap):=kf (X:=aR X scope [call] C ex T S) t;have LO:LamOk X.prog X.w X.K X.mg (jH (aR X scope [call] C ex T S) L s4.heap) (k0+1) z.q.2.f (KO X.K z.q.2.c ql z.ds z.vs z.q.1.m):=IK (kept _ _ po pn nf nx) cp (lo.bd z.q.2.c _ z.q.2.pm z.q.2.ctv) λA outer s H Ek c6=>lo.lam _ M4 z.q.2.f z.q.2.c _ A outer s H Ek c6;have G:=F (jH (aR X scope [call] C ex T S) L s4.heap) M4 z.q.2.f z.q.2.c ql z.ds z.vs z.q.1.m LO;have sp:DE X.K RR z.q.2.f z.q.2.c ql z.ds z.vs z.q.1.m [.ref z.q.2.f] L Q2 E0:=⟨E,S2,[],[],rfl,rep2,b0,b1,.nil,by rw[hR];exact U⟩;have hlen:[ee z.q.2.f].length=ps.length:=by have:=G.len _ _ _ _ sp;rw[<-this];rfl
 refine Q8 (PK (G.run X.A X.stack s4 L ⟨[.ref z.q.2.f],[]⟩ [.ref z.q.2.f] [.ref z.q.2.f] Q2 E0 hr (FT (X:=aR X scope [call] C ex T S) t) (by have:=hb s4 [.ref z.q.2.f] t.kIn (by rw[NT];exact hlen);rw[NT]at this;exact this) (.cons rfl .nil) sp) λr s' N=>?_);cases r with
 |error e=>obtain⟨_,_,_,_,_,_,_,_,_,_,_,_,_,_,_,w⟩:=N;exact j_ w
 |ok fl=>
  cases fl with
  |ret u=>exact t.after N
  |next=>exact j_ N
  |brk=>exact j_ N
  |cont=>exact j_ N
theorem BJ{T:List (bc×Obj)}{v:L2.St}{H J:Hp}{s:b_}{p:bc}{ι:List bc}{S:az}{ρ:S3.aF}{Q:VK}(d:RefX X.prog X.w X.K X.mg k (k0+1) R ps RR)(hR:∀f c es,RR f c es=R' c es)(hr:Room k X.A)(i:∀x,X.fn x=cn)(hc:X.calm=cn)
  (hL:∀q∈P,LmOk X ql k0 q.1) (nd:(P.map (·.2.f)).Nodup) (O:P.length<=100) (c:CompScope X scope [call] [none]) (hy:PE X (.Name y ip) (xT j))
  (hG:∀C ex s H,SG (aR X scope [call] C ex s H) bS (.Name call tp) (gN 0)) (hn:∀C ex s H,PA (aR X scope [call] C ex s H) [.Name call cp] (zA (xT 0) Fk)) (hg:∀C ex s H,Gl (aR X scope [call] C ex s H) R) (b:(R==("__debug__":Str))=dt)
  (he:∀C ex s H,dV [.Name call cp] (aR X scope [call] C ex s H).env=[(dt,hO (.Name call cp) (aR X scope [call] C ex s H).env)]) (hs:∀x,g_ (.Name y ip) X.env x=a_ x)
  (I:L2.Inv X (P.map (Cj X.env.cells ql)++T) v H s) (b0:v[j]? =ar (ar (.ref p))) (hp:H p=ar (.lst (P.map λq=>V.ref q.2.f))) (hb:J p=none) (r:∀q∈P,H q.2.c=ar (.ext (pR ql q.2.c))) (N:∀a o,J a=ar o->(∀ps,o≠ .tbl ps)->H a=ar o) (a5:TabsOk X.K H)
  (U:Rep X.K ι J S) (re:RelE X.K ι J ρ v) (L:cont X.K bS (ja (P.map λq=>F8 q.1) R' ρ) ι S J (mz X.K Q)):
  ed (fb X.prog X.w) X.A (hO (.ListComp (.Call (.Name R rp) [.Name call cp] [] cpos) [⟨.Name call tp,.Name y ip,[],0⟩] scope pos) X.env) (EP X (P.map (Cj X.env.cells ql)++T) v Q) X.xe s:=by
 obtain⟨os,I1⟩:=S3.Inv.fz I [p];have x1:Ext ι J ι (mE [p] os H):=⟨⟨[],by simp⟩,λa o e n t=>⟨by rw[qo (by rw[Og];exact aM e hb)];exact N a o e t,n⟩⟩;have rep1:Rep X.K ι (mE [p] os H) S:=⟨U.nd,U.len,λkk a xs e1 e2=>let ⟨ws,g1,g2⟩:=U.get kk a xs e1 e2;⟨ws,by rw[qo (by rw[Og];exact aM g1 hb)];exact N _ _ g1 (by intro _ z;cases z),g2.later U x1⟩,a5.mono λa o e n=>bR e n⟩;have F:=re.later U x1;unfold ja at L;cases hcap:mF (P.map λq=>F8 q.1) ρ with
 |none=>rw[hcap]at L;exact(ah L).elim
 |some l=>
 rw[hcap]at L;dsimp only at L;obtain⟨Z,W,rfl,G⟩:=rR F hcap;have a4:(Z.map (·.q.2.f)).Nodup:=by
  have:Z.map (·.q.2.f)=P.map (·.2.f):=by rw[<-W,NK];rfl
  rw[this];exact nd
 have hlen:Z.length<=100:=by rw[<-W,Nl]at O;exact O
 have hZ:∀z∈Z,ZOk X.K ι (mE [p] os H) ρ v z/\LmOk X ql k0 z.q.1/\Cj X.env.cells ql z.q∈P.map (Cj X.env.cells ql)++T:=λz hz=>by
  have u:z.q∈P:=by rw[<-W];exact Pm hz
  exact⟨G z hz,hL _ u,OL _ (Pm u)⟩
 have rI:RelDs X.K ι (mE [p] os H) (Z.map (·.it ql)) (P.map λq=>V.ref q.2.f):=by
  rw[<-W,NK];have key:∀Y:List Zi,(∀z∈Y,z∈Z)->RelDs X.K ι (mE [p] os H) (Y.map (·.it ql)) (Y.map ((λq:LmS×FI=>V.ref q.2.f)∘(·.q))):=λY=>by
   induction Y with
   |nil=>intro _;exact .nil
   |cons z Y ih=>
    intro h;have u:z.q∈P:=by rw[<-W];exact Pm (h z (.head _))
    exact .cons (.fn (bR (r _ u) (by intro _ w;cases w)) (G z (h z (.head _))).rel) (ih λa ha=>h a (.tail _ ha))
  exact key Z λz h=>h
 have c2:cont X.K bS (do let it<-(a_ ⟨Z.map (·.it ql),.none⟩:M Iter);let ys<-eV it (gN 0) (λ_=>a_ cn) (mZ ql Z R') (fS [none] ρ);bx ys) ι S (mE [p] os H) (mz X.K Q):=by
  rw[aj];have:eV ⟨Z.map (·.it ql),.none⟩ (gN 0) (λ_=>a_ cn) (mZ ql Z R') (fS [none] ρ)=pW R' (Z.map λz=>z.q.1.m (z.ds.map ar)):=by unfold eV;rw[if_pos (by show(Z.map (·.it ql)).length<=lim;rw[Nl];unfold lim;omega)];exact G7 a4 Z none λz h=>h
  rw[this];exact gu L x1
 have rest:=aq (wa (X:=X) (mi:=λ_=>a_ ⟨Z.map (·.it ql),.none⟩) (js:=[none]) (g:=gN 0) (t:=λ_=>a_ cn) (m:=mZ ql Z R') rep1 F c2) .refl rep1 (J9 X.K p) (oI rep1 (.inl ⟨os p,yL (Og.mpr rfl) hp⟩) rI);rw[Sh];refine qS (g:=Ce X.K bS (gN 0)) (tt:=yg X.K bS λ_=>a_ cn) (te:=tM X.K bS (mZ ql Z R')) none _ c hc (lK hy) (λC ex s3 B I3 f3=>⟨hG C ex s3 B,eW (X:=aR X scope [call] C ex s3 B) (E:=bS),F9 d hR hr i hZ I3 f3 (hn C ex s3 B) (hg C ex s3 B) b (he C ex s3 B)⟩) I1 ⟨_,b0,p,rfl,⟨_,.inl (.inr ⟨os p,yL (Og.mpr rfl) hp⟩)⟩,rest⟩ (λp C s' H' q hI hn _=>?_) hs;obtain⟨m,hm⟩:=hn;exact⟨m,hm,λh2 a3=>⟨.ref p,H',hI h2 a3,rfl,q⟩⟩
end
theorem RelE.forget{K:c_}{ι:List bc}{H:Hp}{u:Option V}:∀{ρ:S3.aF} {σ:L2.St} (i:Nat),RelE K ι H ρ σ->RelE K ι H (ρ.set i none) (σ.set i u)
 |_,_,_,.nil=>.nil
 |_,_,0,.cons _ t=>.cons (λd' z=>by cases z) t
 |_,_,i+1,.cons q t=>.cons q (RelE.forget i t)
section
variable {X:Cx}{os:List (bc×Obj)}
theorem KZ{e:Expr}{t:TE}(h:PE X e t):PE (pin X os) e t:=λpins s σ H Q I q=>dJ (h (os++pins) s σ H Q (gC I) q) λ_ _ ⟨v,H',I',r,q⟩=>⟨v,H',ki I',r,q⟩
theorem yT{e:List p_}{t:TS}(h:qH X e t):qH (pin X os) e t:=λpins s σ H T I q=>dJ (h (os++pins) s σ H T (gC I) q) λf _ U=>by
 cases f with
 |next=>obtain⟨Z,W,Y,q⟩:=U;exact⟨Z,W,ki Y,q⟩
 |brk=>obtain⟨Z,W,Y,q⟩:=U;exact⟨Z,W,ki Y,q⟩
 |cont=>obtain⟨Z,W,Y,q⟩:=U;exact⟨Z,W,ki Y,q⟩
 |ret u=>obtain⟨v,Z,W,Y,r,q⟩:=U;exact⟨v,Z,W,ki Y,r,q⟩
theorem Ga{Y:List (bc×Obj)}{T:Ends}{f:Flow}{s:b_}(S:SP (pin X os) Y T f s):SP X Y T f s:=by
 cases f with
 |next=>obtain⟨Z,U,W,q⟩:=S;exact⟨Z,U,nY (gC W),q⟩
 |brk=>obtain⟨Z,U,W,q⟩:=S;exact⟨Z,U,nY (gC W),q⟩
 |cont=>obtain⟨Z,U,W,q⟩:=S;exact⟨Z,U,nY (gC W),q⟩
 |ret u=>obtain⟨v,Z,U,W,r,q⟩:=S;exact⟨v,Z,U,nY (gC W),r,q⟩
end
structure LAt{α:Type}(K:c_)(ql:Str)(j:Nat)(P:List (LmS×FI))(c:S3.aF->M α)(Q:α->List bc->az->Hp->Prop)(σ:L2.St)(H:Hp)(p:bc)(ι:List bc)(S:az)(ρ:S3.aF)(Hb:Hp):Prop where
 hσ:σ[j]? =ar (ar (.ref p))
 hp:H p=ar (.lst (P.map λq=>V.ref q.2.f))
 hb:Hb p=none
 hc:∀q∈P,H q.2.c=ar (.ext (pR ql q.2.c))
 same:∀a o,Hb a=ar o->(∀ps,o≠ .tbl ps)->H a=ar o
 tab:TabsOk K H
 rep:Rep K ι Hb S
 re:RelE K ι Hb ρ σ
 c:cont K bS (c ρ) ι S Hb Q
abbrev K1(j:Nat)(m:cw):cw:=λρ=>m (ρ.set j none)
def LJ(X:Cx)(ql:Str)(k0 j:Nat)(Ls:List LmS)(sts:List p_)(m:cw):Prop:=
 ∀P:List (LmS×FI),P.map (·.1)=Ls->(∀q∈P,LmOk X ql k0 q.1)->(P.map (·.2.f)).Nodup->∀(pins:List (bc×Obj)) (s:b_) (σ:L2.St) (H:Hp) (T:Ends),L2.Inv X (P.map (Cj X.env.cells ql)++pins) σ H s->(∃p ι S ρ Hb,LAt X.K ql j P m (E4 X.K T) σ H p ι S ρ Hb)->
  ed (fb X.prog X.w) X.A (execs sts X.env) (SP X pins T) X.xe s
section
variable {X:Cx}{xl y ql:Str}{k0 j:Nat}{c Pt:bc}{L:LmS}{Ls:List LmS}{rest:List p_}{m:cw}{p1 lp lpos ap apos cpos epos:Pos}
theorem DU(hx:xl∈cu)(ht:n7 X.K xl=ar (c,Pt))(R:X.env.code= .ref c)(d:X.env.qual++"<lambda>"=ql)(A:ql=xl++".<locals>.<lambda>")(B:BaseL X.K X.mg X.base)(TI:rL X.K)(C:LmOk X ql k0 L)(hN:X.N.Nodup)(p:X.N[j]? =ar y)(g:Loc X.env.scope y)(l:X.fn y=cn\/X.env.scope.names.lookup y=ar .local)
  (h:LJ X ql k0 j [L] rest m) (he:dV [.Lambda L.params L.body L.scope lp] X.env=[(dt,hO (.Lambda L.params L.body L.scope lp) X.env)]:=by rfl) (hs:m_ (.List [.Lambda L.params L.body L.scope lp] lpos) (ar (.Name y p1)) ap.line X.env=a_ false:=by rfl):
  sP X bS (.Assign [.Name y p1] (.List [.Lambda L.params L.body L.scope lp] lpos) ap::rest) (K1 j m):=by
 intro pins s σ H T I h0;obtain⟨ι,S,ρ,rep,re,k⟩:=h0;refine PZ (wpAny_Assign_Name (wpAny_List_spliced (spliced_more (Dy hx ht R d A B TI (iI L.scope X.env λy hy e=>I.ok.has y.1 (C.sc.free y hy e)) C.df I rep.tab λf u U pm r s1 F Q G w P Y n hT=>Q7 ⟨show 1<=sizeLine by decide,?_⟩) he)) hs);have x:f<s1.heap.objs.size:=Nu G;have O:H s1.heap.objs.size=none:=I.hok.fresh (O1 (Qf Q x));have J:r s1.heap.objs.size=none:=F.hok.fresh (Nq _);have E:L2.Inv X ([(L,(⟨f,u,pm,U⟩:FI))].map (Cj X.env.cells ql)++pins) σ r s1:=F.pins_of λq Z=>by
  rcases NJ.mp Z with rfl|Z
  ·exact⟨G,w,k_ (NB (NC I.lt Q)),I.nofs Q,λv z=>by cases z⟩
  ·exact F.pin q (NG _ Z)
 have b:L2.Inv X ([(L,(⟨f,u,pm,U⟩:FI))].map (Cj X.env.cells ql)++pins) σ (upd r s1.heap.objs.size (.lst [.ref f])) {s1 with heap:=s1.heap.push {cls:=.type "list",data:=.seq [ee f].toArray}}:=
  E.laid (t':=s1.toks) (λ_ _ q=>Nm _ q) (Nq _) ⟨show 1<=sizeLine by decide,[.ref f],0,.cons rfl .nil,Nw _ rfl⟩
 refine jR b hN p g (v:=.ref s1.heap.objs.size) rfl (λs3 i=>?_) l;refine h [(L,⟨f,u,pm,U⟩)] rfl (λq Z=>by rw[Og.mp Z];exact C) (Rr _ _) pins s3 _ _ T i ⟨s1.heap.objs.size,ι,S,ρ.set j none,H,?_⟩;refine⟨NO (by rw[I.len];exact(Nt.mp p).1),a8,O,λq Z=>?_,λa o e t=>?_,hT.mono λa o e _=>by rw[aO (aM e J)];exact e,rep,RelE.forget j re,k⟩
 ·rw[Og.mp Z,aO (aM P J)];exact P
 ·rw[aO (aM e O)];exact Y a o e t
theorem DV(hx:xl∈cu)(ht:n7 X.K xl=ar (c,Pt))(G:X.env.code= .ref c)(hq:X.env.qual++"<lambda>"=ql)(d:ql=xl++".<locals>.<lambda>")(B:BaseL X.K X.mg X.base)(TI:rL X.K)(r:LmOk X ql k0 L)(hy:PE X (.Name y p1) (xT j))(R:Ls.length<=100)
  (h:LJ X ql k0 j (Ls++[L]) rest m) (N:ra (.Name y p1) "append" X.env (hO (.Name y p1) X.env)=hO (.Name y p1) X.env:=by rfl)
  (Q:(apos.endLine==cpos.line)=true:=by rfl) (l:dV [.Lambda L.params L.body L.scope lp] X.env=[(dt,hO (.Lambda L.params L.body L.scope lp) X.env)]:=by rfl) (hs:m_ (.Call (.Attribute (.Name y p1) "append" apos) [.Lambda L.params L.body L.scope lp] [] cpos) none epos.line X.env=a_ false:=by rfl):
  LJ X ql k0 j Ls (.Expr (.Call (.Attribute (.Name y p1) "append" apos) [.Lambda L.params L.body L.scope lp] [] cpos) epos::rest) m:=by
 intro P hP u nd pins s σ H T I h0;obtain⟨p,ι,S,ρ,Hb,q⟩:=h0;refine PZ (RG (wpAny_Call_method_late N (by rw[l];rfl) Q rfl (dJ (hy _ s σ H (λx H'=>x= .ref p/\H'=H) I ⟨_,q.hσ,rfl,rfl⟩) λv s0 hv=>?_)) I.quiet hs);obtain⟨x,H0,E,r0,rfl,rfl⟩:=hv;cases r0;obtain⟨h1,h2⟩:=CD (x:=.ref p) (v:=.ref p) E rfl (wo (K:=X.K) q.hp);refine⟨"list","list.append",Qg,Re,Rf,h1,h2,?_⟩;refine Calls.callWith_builtin (by show(wd cpos (dV [.Lambda L.params L.body L.scope lp] X.env)).any (·.1)=dt;rw[l];rfl) (QH (spliced_more (Dy hx ht G hq d B TI (iI L.scope X.env λy hy e=>I.ok.has y.1 (r.sc.free y hy e)) r.df E q.tab λf c' J pm A s1 k O a5 a0 F Z b0 hT=>Q7 ?_) l));have U:A p=ar (.lst (P.map λq=>V.ref q.2.f)):=Z p _ q.hp (by intro _ z;cases z);have i:L2.Inv X ((P++[(L,(⟨f,c',pm,J⟩:FI))]).map (Cj X.env.cells ql)++pins) σ A s1:=k.pins_of λw hw=>by
  rw[NX,ND]at hw;rcases Oj.mp hw with hw|hw
  ·exact k.pin w (NG _ (OL _ hw))
  ·rcases Oj.mp hw with hw|hw
   ·rw[Og.mp hw];exact⟨a5,a0,k_ (NB (NC E.lt O)),E.nofs O,λv z=>by cases z⟩
   ·exact k.pin w (NG _ (NG _ hw))
 have hlen:P.length<=100:=by rw[<-hP,Nl]at R;exact R
 refine dJ (lM _ s1 σ A (.ref p) [.ref f] (.ref p) [.ref f] (λ_ H3=>H3=upd A p (.lst ((P.map λq=>V.ref q.2.f)++[.ref f]))) i rfl (.cons rfl .nil) ⟨p,_,_,rfl,rfl,U,by rw[Nl];exact Qf hlen (by decide),rfl⟩) λ_ s3 h3=>?_;obtain⟨_,H3,I3,_,rfl⟩:=h3;have g:((P++[(L,(⟨f,c',pm,J⟩:FI))]).map (·.2.f)).Nodup:=by rw[NX,Rc];refine⟨nd,Rr _ _,λa ha b C e=>?_⟩;obtain⟨w,hw,rfl⟩:=NL.mp ha;have e2:b=f:=Og.mp C;have:=Nu (E.pin (Cj X.env.cells ql w) (NG _ (OL _ (Pm hw)))).1;have e3:w.2.f=f:=e.trans e2;rw[show(Cj X.env.cells ql w).1=f from e3]at this;exact absurd this (RF.mpr O)
 refine h (P++[(L,⟨f,c',pm,J⟩)]) (by rw[NX,hP];rfl) (λq Y=>by
  rcases Oj.mp Y with Y|Y
  ·exact u q Y
  ·rw[Og.mp Y];exact r) g pins s3 _ _ T I3 ⟨p,ι,S,ρ,Hb,?_⟩
 have C:=q.hb;refine⟨q.hσ,by rw[a8,NX];rfl,C,λw hw=>?_,λa o e t=>?_,hT.mono λa o e n=>?_,q.rep,q.re,q.c⟩
 ·rcases Oj.mp hw with hw|hw
  ·have e1:=Z _ _ (q.hc w hw) (by intro _ z;cases z);rw[aO (GS e1 U (by intro z;cases z))];exact e1
  ·rw[Og.mp hw,aO (GS F U (by intro z;cases z))];exact F
 ·rw[aO (aM e C)];exact Z a o (q.same a o e t) t
 ·rw[aO (λz=>by rw[z,U]at e;exact n _ (NP e).symm)];exact e
end
section
variable {X:Cx}{R call y ql:Str}{k k0 j:Nat}{ps:List Str}{RR:D->M D->List D->M D}{R':M D->List D->M D}{scope:Scope}{rp cp cpos tp ip pos pos2 pos3:Pos}{Ls:List LmS}{rhs:Expr}{n:TM}{op:Tt}{f:D->D->M D}{r:R2}{a b rest:List p_}{ma mb mr:cw}
structure WalkOk(X:Cx)(ql:Str)(k k0 j:Nat)(Ls:List LmS)(R call y:Str)(ps:List Str)(RR:D->M D->List D->M D)(R':M D->List D->M D)(scope:Scope)(cp tp ip:Pos):Prop where
 d:RefX X.prog X.w X.K X.mg k (k0+1) R ps RR
 hR:∀f c es,RR f c es=R' c es
 hr:Room k X.A
 hfn:∀x,X.fn x=cn
 hc:X.calm=cn
 hlim:Ls.length<=100
 c:CompScope X scope [call] [none]
 hy:PE X (.Name y ip) (xT j)
 hG:∀C ex s H,SG (aR X scope [call] C ex s H) bS (.Name call tp) (gN 0)
 hn:∀C ex s H,PA (aR X scope [call] C ex s H) [.Name call cp] (zA (xT 0) Fk)
 hg:∀C ex s H,Gl (aR X scope [call] C ex s H) R
 hdb:(R==("__debug__":Str))=dt
 he:∀C ex s H,dV [.Name call cp] (aR X scope [call] C ex s H).env=[(dt,hO (.Name call cp) (aR X scope [call] C ex s H).env)]
 hs:∀x,g_ (.Name y ip) X.env x=a_ x
def MT(X:Cx)(ql:Str)(j:Nat)(P:List (LmS×FI))(R':M D->List D->M D):TE:=λσ H Q=>∃p ι S ρ Hb,LAt X.K ql j P (ja (P.map λq=>F8 q.1) R') (mz X.K Q) σ H p ι S ρ Hb
theorem DW{P:List (LmS×FI)}(w:WalkOk X ql k k0 j Ls R call y ps RR R' scope cp tp ip)(Y:P.map (·.1)=Ls)(Z:∀q∈P,LmOk X ql k0 q.1)(W:(P.map (·.2.f)).Nodup):
  PE (pin X (P.map (Cj X.env.cells ql))) (.ListComp (.Call (.Name R rp) [.Name call cp] [] cpos) [⟨.Name call tp,.Name y ip,[],0⟩] scope pos) (MT X ql j P R'):=by
 intro pins s σ H Q I h;obtain⟨p,ι,S,ρ,U,q⟩:=h;exact dJ (BJ (X:=X) (P:=P) w.d w.hR w.hr w.hfn w.hc Z W (by have:=w.hlim;rw[<-Y,Nl]at this;exact this) w.c w.hy w.hG w.hn w.hg w.hdb w.he w.hs (gC I) q.hσ q.hp q.hb q.hc q.same q.tab q.rep q.re q.c) λ_ _ ⟨v,H',I',r,z⟩=>⟨v,H',ki I',r,z⟩
theorem IZ{P:List (LmS×FI)}{T:L2.St}{H:Hp}{Q:VK}{α:Type}{g:S3.aF->D->M α}{J:α->List bc->az->Hp->Prop}(B:P.map (·.1)=Ls)(G:tP X.K bS f r){p:bc}{ι:List bc}{S:az}{ρ:S3.aF}{I:Hp}
  (q:LAt X.K ql j P (λρ=>ja (Ls.map F8) R' ρ>>=λx=>n ρ>>=λy=>f x y>>=g ρ) J T H p ι S ρ I)
  (E:∀z d Z S1 Y,Rep X.K Z Y S1->RelE X.K Z Y ρ T->RelD X.K Z Y d z->cont X.K bS (g ρ d) Z S1 Y J->Q z Y):JN r (MT X ql j P R') (tM X.K bS n) T H Q:=by
 refine⟨p,ι,S,ρ,I,q.hσ,q.hp,q.hb,q.hc,q.same,q.tab,q.rep,q.re,?_⟩;rw[show(P.map λq=>F8 q.1)=Ls.map F8 by rw[<-B,NK];rfl];refine aw (ai q.c) λd Z S1 Y e1 rep1 c1 v C=>?_;have W:=q.re.later q.rep e1;refine⟨Z,S1,ρ,rep1,W,aw (ai c1) λA L S2 w e2 rep2 t v2 N=>?_⟩;refine G L S2 w d A v v2 Q rep2 (C.later rep1 e2) N (aw (ai t) λu O S3 s e3 rep3 c3 F U=>?_);exact E F u O S3 s rep3 ((W.later rep1 e2).later rep2 e3) U c3
theorem K2(w:WalkOk X ql k k0 j Ls R call y ps RR R' scope cp tp ip)(m:SE X bS rhs n)(G:∀os,jS (pin X os) (kr op) r)(J:tP X.K bS f r)(u:sP X bS a ma)(F:sP X bS b mb)(C:sP X bS rest mr)(B:mh op rhs=false:=by first|exact qI _ (by decide) (by decide)|rfl):
  LJ X ql k0 j Ls (.If (.Compare (.ListComp (.Call (.Name R rp) [.Name call cp] [] cpos) [⟨.Name call tp,.Name y ip,[],0⟩] scope pos) [op] [rhs] pos2) a b pos3::rest) (aJ (jQ (eS f (ja (Ls.map F8) R') n) ma mb) mr):=by
 intro P O Y E pins s σ H T I h0;obtain⟨p,ι,S,ρ,l,q⟩:=h0;refine dJ (vU (GU (zz (G _) (DW w O Y E) (KZ m) B) (yT u) (yT F)) (yT C) pins s σ H T (ki I) ?_) λ_ _ z=>Ga z;have A:LAt X.K ql j P (λρ=>ja (Ls.map F8) R' ρ>>=λx=>n ρ>>=λy=>f x y>>=λz=>kQ z>>=λc=>(if c=cn then ma ρ else mb ρ)>>=λo=>yj o mr) (E4 X.K T) σ H p ι S ρ l:=by refine⟨q.hσ,q.hp,q.hb,q.hc,q.same,q.tab,q.rep,q.re,?_⟩;have:=q.c;unfold aJ jQ eS at this;simp only[dY]at this;exact this
 refine IZ (g:=λρ z=>kQ z>>=λc=>(if c=cn then ma ρ else mb ρ)>>=λo=>yj o mr) O J A λz d Z S1 L rep1 U t c1=>?_;obtain⟨k,rfl,rfl,N⟩:=nG rep1 t (ai c1);refine⟨k,rfl,?_⟩;have fin:∀{mm:cw},cont X.K bS (mm ρ>>=λo=>yj o mr) Z S1 L (E4 X.K T)->LC X.K bS mm {T with nx:=LC X.K bS mr T} σ L:=λ{mm} c=>by
  refine⟨Z,S1,ρ,rep1,U,aw (ai c) λo Q S2 i e2 rep2 c3=>?_⟩;cases o with
  |nx ρ'=>exact λv W=>⟨Q,S2,ρ',rep2,W,c3⟩
  |ret d=>exact aq c3 .refl rep2
  |bk ρ'=>exact aq c3 .refl rep2
  |ct ρ'=>exact aq c3 .refl rep2
 cases k with
 |true=>exact fin N
 |false=>exact fin N
end
end S7
namespace S3
open PySem PySem.Spec PyProof.Rows L2
def xa:D->D->M D
 | .lst k,.int i=>do
  let xs<-getL k
  if -(2 ^ 62)<=i/\i<=1000/\xs.length<=1000 then bx (ey i.toNat xs).flatten else M.fail
 |_,_=>M.fail
section
variable {X:Cx}{E:XD}{a b:Expr}{m n:TM}{pos:Pos}
theorem RelDs.rep{K:c_}{ι:List bc}{H:Hp}{ds:List D}{vs:List V}(r:RelDs K ι H ds vs):∀k:Nat,RelDs K ι H (ey k ds).flatten (ey k vs).flatten
 |0=>.nil
 |k+1=>by rw[On,On,O3,O3];exact r.append (RelDs.rep r k)
theorem Gb:tP X.K E xa Kt:=by
 intro ι S H P O v1 v2 Q rep T R c;unfold xa at c;split at c
 ·next k i=>
  obtain⟨p,rfl,U⟩:=T.lst_inv;obtain⟨es,us,_,W,Y,Z⟩:=bh c rep U;split at Z
  ·next hb=>
   have N:=Y.length;refine⟨p,i,us,rfl,R.int_inv,W,by omega,by omega,Nv (Nat.mul_le_mul (show us.length<=1000 by omega) (show i.toNat<=1000 by omega)) (show 1000*1000<=sizeLine by decide),(bW Z rep (Y.rep i.toNat)).2⟩
  ·exact(ah Z).elim
 ·exact(ah c).elim
theorem Ja(Z:SE X E a m)(Y:SE X E b n):SE X E (.BinOp a .Mult b pos) (λρ=>do let x<-m ρ;let y<-n ρ;xa x y):=qV HR Gb Z Y
end
end S3
namespace S3
open PySem PySem.Spec PyProof.Rows L2 PySem.SeqAt
section
variable {X:Cx}{E:XD}{o e:Expr}{es:List Expr}{m:TM}{ms:aF->M (List D)}{pos:Pos}
def MU:D->M Unit
 | .tup _=>a_ ()
 |_=>M.fail
abbrev Gc(f:D->List D->M D)(m n:TM):TM:=λρ=>do let x<-m ρ;MU x;let ds<-(do let y<-n ρ;let ys<-a_ [];a_ (y::ys));f x ds
def oR:D->List D->M D:=λt ds S=>match ds with
 |[x]=>match gw S 60 t,gw S 60 x with
  |some (.tuple xs),ar p=>ar (.ok (.int (xs.countP λy=>f_ y p:Nat)),S)
  |_,_=>none
 |_=>none
def DX:V->List V->Hp->VK->Prop:=λx vs H Q=>∃y p xs,vs=[y]/\(ReadsV H x (.tuple xs)/\(I0 xs).canLay0=cn/\(I0 xs).depth<=60)/\(ReadsV H y p/\p.canLay0=cn/\p.depth<=60)/\Q (.int (xs.countP λz=>f_ z p:Nat)) H
theorem DY(G:X.A.units+64<u3):Kn X "tuple.count" DX:=by
 intro pins s σ H x vs v us Q I U O h;obtain⟨y,p,xs,rfl,⟨L,Y,K⟩,⟨N,R,J⟩,q⟩:=h;obtain⟨u,rfl,W⟩:=O.one;obtain⟨as,S⟩:=L.heap I.hok U;obtain⟨bs,P⟩:=N.heap I.hok W;cases S with
 | @tuple a ob its n _ _ h1 h2 h3 h4=>
  obtain⟨cls,dd,data,T⟩:=ob;simp only at h2 h3;subst h2 h3;have Z:=readsAll_map xs _ _ Y h4;have hd:=lg K;have hm:min (mv xs) p.depth<=60:=Nv (PM _ _) hd;refine QN F.slot_tuple_count ⟨_,h1,rfl⟩ F.entry_tuple_count (F.args_tuple_count_2 _ _)
   (tuple_countAt a its n dd T u λy=>f_ (T_ s.heap y) p) ⟨h1,items_eqAt h4 P Y R (by omega),?_⟩
  have e:its.toList.countP (λy=>f_ (T_ s.heap y) p)=xs.countP λz=>f_ z p:=by rw[<-Z,Qk];rfl
  exact⟨.int _,H,I.tok _,⟨_,rfl⟩,by first|(rw[e];exact q)|(simp only[e];exact q)⟩
theorem BK:JO X.K E oR DX:=by
 intro ι S H d ds v vs Q rep r rs c;obtain⟨U,W,e,k⟩:=c;unfold oR at e;split at e
 ·next x=>
  obtain⟨w,ws,rfl,Z,Y⟩:=rs.cons_inv;cases Y.nil_inv;split at e
  ·next xs p hp hq=>
   cases e;exact⟨w,p,xs,rfl,jq rep 60 d _ v hp r,jq rep 60 x p w hq Z,k ι H .refl rep _ (.int _)⟩
  ·cases e
 ·cases e
theorem DZ{n:TM}{Z:Pos}(L:X.A.units+64<u3)(R:SE X E o m)(N:SE X E e n)
  (Y:ra o "count" X.env (hO o X.env)=hO o X.env:=by rfl)
  (W:(Z.endLine==pos.line)=true:=by rfl) (hs:dV [e] X.env=[(dt,hO e X.env)]:=by rfl):
  SE X E (.Call (.Attribute o "count" Z) [e] [] pos) (Gc oR m n):=by
 refine PE.imp (CF PySem.F.plainAttrs_tuple PySem.F.slot_tuple_count PySem.F.type_tuple_count (DY L) R (af N ak hs) Y (by rw[hs];rfl) W hs rfl) λσ H Q h=>?_;obtain⟨ι,S,ρ,rep,re,c⟩:=h;refine⟨ι,S,ρ,rep,re,aw (ai c) λx U S1 I e1 rep1 c1 v K=>?_⟩;cases x with
 |tup us=>
  have J:=aq (ai c1) .refl rep1;cases K with
  |tup hv hs=>exact⟨.inr (.inl ⟨rfl,_,hv⟩),U,S1,ρ,rep1,re.later rep e1,aw (ai J) λds T S2 O e2 rep2 c3 vs P=>BK T S2 O _ ds _ vs Q rep2 ((RelD.tup hv hs).later rep1 e2) P c3⟩
 |_=>exact(ah (ai c1)).elim
def kj:D->List D->M D:=λt ds S=>match ds with
 |[x]=>match gw S 60 t,gw S 60 x with
  |some (.list xs),ar p=>ar (.ok (.int (xs.countP λy=>f_ y p:Nat)),S)
  |_,_=>none
 |_=>none
def Aj:V->List V->Hp->VK->Prop:=λx vs H Q=>∃y p xs,vs=[y]/\(ReadsV H x (.list xs)/\(wG xs).canLay0=cn/\(wG xs).depth<=60)/\(ReadsV H y p/\p.canLay0=cn/\p.depth<=60)/\Q (.int (xs.countP λz=>f_ z p:Nat)) H
theorem BN(G:X.A.units+64<u3):Kn X "list.count" Aj:=by
 intro pins s σ H x vs v us Q I U O h;obtain⟨y,p,xs,rfl,⟨L,Y,K⟩,⟨N,R,J⟩,q⟩:=h;obtain⟨u,rfl,W⟩:=O.one;obtain⟨as,S⟩:=L.heap I.hok U;obtain⟨bs,P⟩:=N.heap I.hok W;cases S with
 | @list a ob its n _ _ h1 h2 h3 h4=>
  obtain⟨cls,dd,data,T⟩:=ob;simp only at h2 h3;subst h2 h3;have Z:=readsAll_map xs _ _ Y h4;have hd:=mU K;have hm:min (mv xs) p.depth<=60:=Nv (PM _ _) hd;refine QN F.slot_list_count ⟨_,h1,rfl⟩ F.entry_list_count (F.args_list_count_2 _ _)
   (list_countAt a its n dd T u λy=>f_ (T_ s.heap y) p) ⟨h1,items_eqAt h4 P Y R (by omega),?_⟩
  have e:its.toList.countP (λy=>f_ (T_ s.heap y) p)=xs.countP λz=>f_ z p:=by rw[<-Z,Qk];rfl
  exact⟨.int _,H,I.tok _,⟨_,rfl⟩,by first|(rw[e];exact q)|(simp only[e];exact q)⟩
theorem yU:JO X.K E kj Aj:=by
 intro ι S H d ds v vs Q rep r rs c;obtain⟨U,W,e,k⟩:=c;unfold kj at e;split at e
 ·next x=>
  obtain⟨w,ws,rfl,Z,Y⟩:=rs.cons_inv;cases Y.nil_inv;split at e
  ·next xs p hp hq=>
   cases e;exact⟨w,p,xs,rfl,jq rep 60 d _ v hp r,jq rep 60 x p w hq Z,k ι H .refl rep _ (.int _)⟩
  ·cases e
 ·cases e
def Nf:D->M Unit
 | .fz _=>a_ ()
 |_=>M.fail
abbrev K3(f:D->List D->M D)(m n:TM):TM:=λρ=>do let x<-m ρ;Nf x;let ds<-(do let y<-n ρ;let ys<-a_ [];a_ (y::ys));f x ds
theorem BO{n:TM}{Z:Pos}(L:X.A.units+64<u3)(R:SE X E o m)(N:SE X E e n)
  (Y:ra o "count" X.env (hO o X.env)=hO o X.env:=by rfl)
  (W:(Z.endLine==pos.line)=true:=by rfl) (hs:dV [e] X.env=[(dt,hO e X.env)]:=by rfl):
  SE X E (.Call (.Attribute o "count" Z) [e] [] pos) (K3 kj m n):=by
 refine PE.imp (CF Qg PySem.F.slot_list_count PySem.F.type_list_count (BN L) R (af N ak hs) Y (by rw[hs];rfl) W hs rfl) λσ H Q h=>?_;obtain⟨ι,S,ρ,rep,re,c⟩:=h;refine⟨ι,S,ρ,rep,re,aw (ai c) λx U S1 I e1 rep1 c1 v K=>?_⟩;cases x with
 |fz us=>
  have J:=aq (ai c1) .refl rep1;cases K with
  |fz hv hs=>exact⟨.inl ⟨rfl,_,.inl (.inr ⟨_,hv⟩)⟩,U,S1,ρ,rep1,re.later rep e1,aw (ai J) λds T S2 O e2 rep2 c3 vs P=>yU T S2 O _ ds _ vs Q rep2 ((RelD.fz hv hs).later rep1 e2) P c3⟩
 |_=>exact(ah (ai c1)).elim
end
end S3
namespace W
open PySem PySem.Spec PyProof.Rows L2 S3 S4 S7
def rS:cw:=bF (pU (iq (mV 0) "int") (FK (iq (mV 0) "bool")))
def c8:List D->M D:=kN 1 1 rS
def t8:cw:=bF (pU (iq (mV 0) "tuple") (aW oE (de dm (mV 0)) (mK (.int 2))))
def dZ:List D->M D:=kN 1 1 t8
def jb:gz:=kJ
def jc:TM:=aW qc (mV 0) (mV 1)
def pI:cw:=bF (de sS (aQ (bj (pG (mV 0) (aQ (Bv (mV 0) (oS (mK (.int 1))) oN))) (fV 2 (a9 (gN 0) (a9 (gN 1) eE))) jb jc [none,none])))
def hV:List D->M D:=kN 1 1 pI
def rT:cw:=bF (aW inD (dq (aa (au minD (aa (mV 1) (aa (mV 2) ao))) (aa (au maxD (aa (mV 1) (aa (mV 2) ao))) ao))) (aW bE (mV 0) (mK (.int 1))))
def cJ:List D->M D:=kN 3 3 rT
def pJ:cw:=bF (aW inD (dq (aa (au minD (aa (mV 1) (aa (mV 2) ao))) (aa (au maxD (aa (mV 1) (aa (mV 2) ao))) ao))) (aW bE (mV 0) (mK (.int 1))))
def ba:List D->M D:=kN 3 3 pJ
def lu:cw:=aJ (jQ (eS qc (mV 1) (de dm (mV 0))) (bF (aW bE (mV 0) (mV 1))) d4) (bF (mK (.int 0)))
def eJ:List D->M D:=kN 2 2 lu
def pK:cw:=aJ (jQ (bV (aW bE (mV 0) (mK (.int 1)))) (aJ (bC 2 (aW uK (aW bE (mV 0) (mK (.int 0))) (mV 1))) (aJ (pV (aW zN (aW bE (mV 0) (mK (.int 0))) (mV 1)) (LD (mV 0) (mK (.int 0)))) (bF (mV 2)))) d4) (aJ (pV (aW uK (aW cy (aW uJ (aW bE (mV 0) (mK (.int 0))) (mK (.int 48271))) (mK (.int 29))) (mK (.int 2147483647))) (LD (mV 0) (mK (.int 0)))) (aJ (bC 3 (aW uK (aW cy (aW cy (aW uJ (aW bE (mV 0) (mK (.int 0))) (aW bE (mV 0) (mK (.int 0)))) (aW uJ (mK (.int 39373)) (aW bE (mV 0) (mK (.int 0))))) (mK (.int 7))) (mK (.int 2147483629)))) (aJ (bC 3 (aW uK (aW cy (aW uJ (mV 3) (mV 3)) (aW uJ (mK (.int 16807)) (mV 3))) (mK (.int 2147483587)))) (bF (aW uK (aW zN (mV 3) (mK (.int 8))) (mV 1))))))
def aD:List D->M D:=kN 4 2 pK
def eL:cw:=jQ (xQ (eS inD (aW bE (aW bE (mV 1) (mV 3)) (mK (.int 0))) (aW bE (mV 1) (mV 4))) (eS inD (aW bE (aW bE (mV 1) (mV 3)) (mK (.int 1))) (aW bE (mV 1) (mV 4)))) (sW (wC dE (mV 2) (dq (aa (mV 3) (aa (mV 4) ao))))) d4
def jd:cw:=ir (Cg (aW cy (mV 3) (mK (.int 1))) (de dm (mV 1))) (gN 4) eL
def jw:cw:=aJ (bC 1 (aW bE (mV 0) (mK (.int 1)))) (aJ (bC 2 (bp ao)) (aJ (ir (lX (de dm (mV 1))) (gN 3) jd) (bF (dq (aa (de dm (mV 1)) (aa (de gx (mV 2)) ao))))))
def ia:List D->M D:=kN 5 1 jw
def dO:cw:=sW (wC dE (mV 2) (dq (aa (au minD (aa (aW bE (mV 1) (mV 3)) (aa (aW bE (mV 1) (mV 4)) ao))) (aa (au maxD (aa (aW bE (mV 1) (mV 3)) (aa (aW bE (mV 1) (mV 4)) ao))) ao))))
def iL:cw:=aJ (bC 2 (bp ao)) (aJ (ir (bX (aW bE (mV 0) (mK (.int 1)))) (fV 2 (a9 (gN 3) (a9 (gN 4) eE))) dO) (bF (dq (aa (aW bE (mV 0) (mK (.int 0))) (aa (de gx (aQ (de cm (mV 2)))) ao)))))
def fZ:List D->M D:=kN 5 2 iL
def rV:cw:=bF (pU (au c8 (aa (mV 1) ao)) (IE HY qc (mK (.int 0)) (mV 1) (mV 0)))
def dG:List D->M D:=kN 2 2 rV
def m5:gz:=kJ
def m7:TM:=aQ (au cJ (aa (mV 1) (aa (mV 0) (aa (mV 2) ao))))
def Ak:cw:=bF (de sS (aQ (bj (bX (mV 1)) (gN 0) m5 m7 [none,ar 0,ar 2])))
def qp:List D->M D:=kN 3 3 Ak
def f7:gz:=bV (aQ (au cJ (aa (mV 1) (aa (mV 0) (aa (mV 2) ao)))))
def f9:TM:=mV 0
def jx:cw:=aJ (jQ (eS inD (mV 2) (mV 1)) (bF (mK (.bl dt))) d4) (aJ (bC 3 (de dm (aQ (bj (bX (mV 1)) (gN 0) f7 f9 [none,ar 0,ar 2])))) (bF (aW inD (mV 3) (dq (aa (mK (.int 1)) (aa (mK (.int 3)) ao))))))
def jz:List D->M D:=kN 4 3 jx
def gD:gz:=eS mT (mV 0) (mV 1)
def gE:TM:=mV 0
def gF:gz:=eS mT (mV 0) (mV 1)
def gG:TM:=mV 0
def gT:cw:=aJ (bC 3 (aQ (bj (bX (mV 1)) (gN 0) gD gE [none,ar 2]))) (aJ (bC 4 (aQ (bj (bX (mV 2)) (gN 0) gF gG [none,ar 1]))) (bF (pU (aW oE (de dm (mV 3)) (mK (.int 1))) (FK (aQ (au cJ (aa (mV 0) (aa (aW bE (mV 3) (mK (.int 0))) (aa (aW bE (mV 4) (mK (.int 0))) ao)))))))))
def ft:List D->M D:=kN 5 3 gT
def nZ:cw:=aJ (bC 2 (au eJ (aa (mV 0) (aa (mV 1) ao)))) (aJ (jQ (eS Mt (mV 2) (aW CQ (mK (.int 10)) (mK (.int 18)))) (bF (bp (aa (aW uI (mV 2) (aW CQ (mK (.int 10)) (mK (.int 18)))) (aa (mK (.bl cn)) ao)))) d4) (bF (bp (aa (aW uK (mV 2) (mK (.int 2147483647))) (aa (mK (.bl dt)) ao)))))
def iM:List D->M D:=kN 3 2 nZ
def fC:gz:=eS qc (aQ (au aD (aa (mV 1) (aa (mK (.int 4)) ao)))) (mV 2)
def fD:TM:=dq (aa (mV 3) (aa (mV 0) ao))
def dP:cw:=sW (wC kc (mV 3) (aQ (bj (Cg (aW cy (mV 4) (mK (.int 1))) (mV 1)) (gN 0) fC fD [none,ar 0,ar 2,ar 4])))
def iN:cw:=aJ (bC 3 (bp ao)) (aJ (ir (lX (mV 1)) (gN 4) dP) (bF (dq (aa (mV 1) (aa (de gx (mV 3)) ao)))))
def dH:List D->M D:=kN 5 3 iN
def dQ:cw:=sW (wC dE (mV 3) (wC oH (mV 2) (aQ (au aD (aa (mV 0) (aa (de dm (mV 2)) ao))))))
def iO:cw:=aJ (bC 2 (de fN (mV 1))) (aJ (bC 3 (bp ao)) (aJ (IG 64 (eS mB (mV 2) (aQ (bp ao))) dQ) (bF (de gx (mV 3)))))
def cq:List D->M D:=kN 4 2 iO
def gf:cw:=aJ (bC 1 (bp (aS (mK .non) (aS (mK (.int 0)) (aS (mK (.tup [])) (aS (mK (.tup [.int 15,.tup []])) (aS (mK (.tup [.int (-1),.tup []])) (aS (mK (.tup [.bl cn,.tup []])) (aS (dq (aa (mK (.int 2)) (aa (bp ao) ao))) (aS (bp (aa (mK (.int 2)) (aa (mK (.tup [])) ao))) (aS (mK (.tup [.int 2,.tup [.tup [.int 1,.int 0]]])) (aS (mK (.tup [.int 2,.tup [.tup [.int 0,.int 0]]])) ao)))))))))))) (aJ (bC 1 (aW cy (mV 1) (bp (aS (mK (.tup [.int 3,.tup [.tup [.int 0,.int 2],.tup [.int 0,.int 1]]])) (aS (mK (.tup [.int 2,.tup [.tup [.int 0,.int 1],.tup [.int 0,.int 1]]])) (aS (mK (.tup [.int 2,.tup [.tup [.int 0,.int 1,.int 1]]])) (aS (mK (.tup [.int 2,.tup [.tup [.int 0,.bl cn]]])) (aS (mK (.tup [.int 2])) ao)))))))) (aJ (bC 1 (aW cy (mV 1) (bp (aa (mK (.tup [.int 2,.tup [.tup [.int 0,.int 2]]])) (aa (mK (.str "2:")) (aa (mK .emp) ao)))))) (aJ (bC 1 (aW cy (mV 1) (bp (aS (dq (aa (mK (.int 2)) (aa (dq (aa (bp (aa (mK (.int 0)) (aa (mK (.int 1)) ao))) ao)) ao))) (aS (mK (.tup [.int 2,.tup [],.tup []])) (aS (mK (.tup [.int 2,.non])) (aS (mK (.tup [.str "2",.tup []])) ao))))))) (bF (aW bE (mV 1) (au aD (aa (mV 0) (aa (mK (.int 22)) ao))))))))
def gh:List D->M D:=kN 2 1 gf
def fE:gz:=bV (aQ (au ba (aa (mV 1) (aa (mV 2) (aa (mV 0) ao)))))
def fF:TM:=mV 0
def fG:gz:=nV (eS GZ (mV 0) (mV 1)) (eA (bV (aQ (au ba (aa (mV 2) (aa (mV 1) (aa (mV 0) ao)))))))
def fH:TM:=mV 0
def iw:gz:=nV (eS GZ (mV 0) (mV 1)) (eA (bV (aQ (au ba (aa (mV 2) (aa (mV 1) (aa (mV 0) ao)))))))
def iy:TM:=dq (aS (mV 3) (aS (mV 4) (aS (mV 1) (aS (mV 0) ao))))
def fI:cw:=sW (wC kc (mV 1) (aQ (bj (bX (mV 5)) (gN 0) iw iy [none,ar 6,ar 0,ar 2,ar 4])))
def dR:cw:=aJ (bC 5 (aQ (bj (bX (mV 3)) (gN 0) fG fH [none,ar 4,ar 0]))) (ir (bX (mV 5)) (gN 6) fI)
def dU:cw:=aJ (bC 3 (aQ (bj (lX (aW bE (mV 0) (mK (.int 0)))) (gN 0) fE fF [none,ar 0,ar 2]))) (ir (bX (mV 3)) (gN 4) dR)
def iP:cw:=aJ (bC 1 (bp ao)) (aJ (ir (lX (aW bE (mV 0) (mK (.int 0)))) (gN 2) dU) (bF (mV 1)))
def dI:List D->M D:=kN 7 1 iP
def gU:gz:=eS mT (mV 0) (dq (aa (mV 1) (aa (mV 2) (aa (mV 3) ao))))
def gW:TM:=mV 0
def jJ:gz:=kJ
def jK:TM:=aQ (au ba (aa (mV 1) (aa (mV 0) (aa (mV 2) ao))))
def gX:gz:=kJ
def gY:TM:=K3 kj (aQ (bj (bX (dq (aa (mV 1) (aa (mV 2) (aa (mV 3) ao))))) (gN 0) jJ jK [none,ar 4,ar 0])) (mK (.bl cn))
def fu:cw:=jQ (nV (bV (aQ (au ba (aa (mV 0) (aa (mV 2) (aa (mV 3) ao)))))) (nV (bV (aQ (au ba (aa (mV 0) (aa (mV 2) (aa (mV 4) ao)))))) (bV (aQ (au ba (aa (mV 0) (aa (mV 3) (aa (mV 4) ao)))))))) (aJ (bC 5 (aQ (bj (lX (aW bE (mV 0) (mK (.int 0)))) (gN 0) gU gW [none,ar 2,ar 3,ar 4]))) (aJ (bC 6 (aQ (bj (bX (mV 5)) (gN 0) gX gY [none,ar 2,ar 3,ar 4,ar 0]))) (jQ (xQ (eS inD (mK (.int 1)) (mV 6)) (eS inD (mK (.int 3)) (mV 6))) (sW (wC dE (mV 1) (dq (aa (mV 2) (aa (mV 3) (aa (mV 4) ao)))))) d4))) d4
def fw:cw:=ir (Cg (aW cy (mV 3) (mK (.int 1))) (aW bE (mV 0) (mK (.int 0)))) (gN 4) fu
def fx:cw:=ir (Cg (aW cy (mV 2) (mK (.int 1))) (aW bE (mV 0) (mK (.int 0)))) (gN 3) fw
def kl:cw:=aJ (bC 1 (bp ao)) (aJ (ir (lX (aW bE (mV 0) (mK (.int 0)))) (gN 2) fx) (bF (mV 1)))
def fO:List D->M D:=kN 7 1 kl
def je:gz:=eS oE (Gc oR (aQ (aW cy (aW bE (mV 1) (mV 2)) (mV 3))) (mV 0)) (mK (.int 1))
def jf:TM:=mV 0
def cR:cw:=aJ (bC 4 (aQ (bj (bX (aQ (aW cy (aW bE (mV 1) (mV 2)) (mV 3)))) (gN 0) je jf [none,ar 1,ar 2,ar 3]))) (jQ (nV (eS oE (de dm (mV 4)) (mK (.int 2))) (eA (bV (aQ (au ba (aa (mV 0) (aa (aW bE (mV 4) (mK (.int 0))) (aa (aW bE (mV 4) (mK (.int 1))) ao)))))))) (bF (dq (aa (aW bE (mV 1) (mV 2)) (aa (mV 3) ao)))) d4)
def dg:cw:=ir (bX (aQ (Bv (mV 1) (oS (aW cy (mV 2) (mK (.int 1)))) oN))) (gN 3) cR
def jA:cw:=aJ (ir (lX (de dm (mV 1))) (gN 2) dg) (bF (mK .non))
def fR:List D->M D:=kN 5 2 jA
def rW:cw:=aJ (jQ (eA (bV (au dZ (aa (mV 1) ao)))) (bF (mK (.bl dt))) d4) (aJ (pV (mV 1) (fV 2 (a9 (gN 2) (a9 (gN 3) eE)))) (bF (pU (au dG (aa (mV 0) (aa (mV 2) ao))) (pU (au dG (aa (mV 0) (aa (mV 3) ao))) (aW qc (mV 2) (mV 3))))))
def n4:List D->M D:=kN 4 2 rW
def lA:gz:=kJ
def lB:gz:=bV (aQ (au qp (aa (mV 2) (aa (mV 0) (aa (mV 1) ao)))))
def lC:TM:=aQ (aW cy (mV 0) (dq (aa (mV 1) ao)))
def xb:cw:=bF (aQ (m3 (bX (aW bE (mV 0) (mK (.int 1)))) (gN 0) lA (Cg (aW cy (aW bE (mV 0) (mK (.int 1))) (mK (.int 1))) (aW bE (mV 2) (mK (.int 0)))) (gN 1) lB lC [none,none,ar 0]))
def jg:List D->M D:=kN 1 1 xb
def bN:cw:=jQ (eS GZ (aQ (au aD (aa (mV 0) (aa (mK (.int 8)) ao)))) (mK (.int 0))) (aJ (IF 6 7 (aa (aW bE (mV 3) (mV 5)) (aa (aW bE (mV 3) (aQ (au aD (aa (mV 0) (aa (mV 5) ao))))) ao))) (sW (wC dE (mV 4) (dq (aa (au minD (aa (mV 6) (aa (mV 7) ao))) (aa (au maxD (aa (mV 6) (aa (mV 7) ao))) ao)))))) d4
def bO:cw:=aJ (pV (aQ (de cm (aQ (bp (aa (aQ (au aD (aa (mV 0) (aa (mV 2) ao)))) (aa (aQ (au aD (aa (mV 0) (aa (mV 2) ao)))) ao)))))) (rQ 2 (a9 (gN 9) (a9 (gN 10) eE)))) (jQ (eS qc (mV 9) (mV 10)) (sW (wC dE (mV 4) (dq (aa (mV 9) (aa (mV 10) ao))))) d4)
def fJ:cw:=aJ (bC 2 (aW cy (mK (.int 1)) (aQ (au aD (aa (mV 0) (aa (au minD (aa (mK (.int 7)) (aa (aW cy (mV 1) (mK (.int 1))) ao))) ao)))))) (aJ (bC 3 (aQ (au cq (aa (mV 0) (aa (mV 2) ao))))) (aJ (bC 4 (bp ao)) (aJ (ir (Cg (mK (.int 1)) (mV 2)) (gN 5) bN) (aJ (ir (lX (aQ (au aD (aa (mV 0) (aa (mK (.int 4)) ao))))) (gN 8) bO) (bF (dq (aa (mV 2) (aa (de gx (aQ (de cm (aQ (Bv (aQ (de i8 (mV 4))) oN (oS (mV 1))))))) ao))))))))
def cK:List D->M D:=kN 11 2 fJ
def jB:gz:=kJ
def jC:TM:=aQ (au n4 (aa (mV 1) (aa (mV 0) ao)))
def rX:cw:=aJ (jQ (eA (bV (aQ (au dZ (aa (mV 0) ao))))) (bF (mK (.bl dt))) d4) (aJ (pV (mV 0) (fV 2 (a9 (gN 1) (a9 (gN 2) eE)))) (aJ (jQ (xQ (eA (bV (aQ (au c8 (aa (mV 1) ao))))) (xQ (eA (yE HY HY (mK (.int 0)) (mV 1) (mK (.int 14)))) (eA (bV (iq (mV 2) "tuple"))))) (bF (mK (.bl dt))) d4) (bF (pU (de sS (aQ (bj (bX (mV 2)) (gN 0) jB jC [none,ar 1]))) (aQ (au hV (aa (mV 2) ao)))))))
def lD:List D->M D:=kN 3 1 rX
def fy:gz:=eS mB (mV 0) (dq (aa (mV 1) (aa (mV 2) ao)))
def fA:TM:=mV 0
def km:cw:=aJ (bC 2 (aQ (au aD (aa (mV 0) (aa (mK (.int 6)) ao))))) (aJ (jQ (eS qc (mV 2) (mK (.int 3))) (aJ (bC 3 (aW uI (mV 1) (aW bE (aQ (bp (aS (mK (.int 0)) (aS (mK (.int 0)) (aS (mK (.int 1)) (aS (mK (.int 2)) (aS (mK (.int 3)) (aS (mV 1) ao)))))))) (aQ (au aD (aa (mV 0) (aa (mK (.int 6)) ao))))))) (bF (aQ (au dH (aa (mV 0) (aa (au maxD (aa (mK (.int 0)) (aa (mV 3) ao))) (aa (aW cy (mV 2) (mK (.int 1))) ao))))))) d4) (aJ (bC 4 (aQ (au ia (aa (aQ (au cK (aa (mV 0) (aa (mV 1) ao)))) ao)))) (aJ (bC 4 (aQ (au fZ (aa (mV 4) (aa (aQ (au cq (aa (mV 0) (aa (aW bE (mV 4) (mK (.int 0))) ao)))) ao))))) (aJ (jQ (xQ (eS oE (mV 2) (mK (.int 3))) (eS qc (aW bE (mV 4) (mK (.int 0))) (mK (.int 2)))) (bF (mV 4)) d4) (aJ (pV (aQ (de cm (aQ (bp (aa (aQ (au aD (aa (mV 0) (aa (aW bE (mV 4) (mK (.int 0))) ao)))) (aa (aQ (au aD (aa (mV 0) (aa (aW bE (mV 4) (mK (.int 0))) ao)))) ao)))))) (rQ 2 (a9 (gN 5) (a9 (gN 6) eE)))) (aJ (bC 7 (bj (bX (aW bE (mV 4) (mK (.int 1)))) (gN 0) fy fA [none,ar 5,ar 6])) (aJ (jQ (nV (eS qc (mV 5) (mV 6)) (eS oE (de dm (mV 7)) (de dm (aW bE (mV 4) (mK (.int 1)))))) (sW (wC dE (mV 7) (dq (aa (mV 5) (aa (mV 6) ao))))) d4) (bF (dq (aa (aW bE (mV 4) (mK (.int 0))) (aa (de gx (aQ (de cm (mV 7)))) ao)))))))))))
def fP:List D->M D:=kN 8 2 km
def rY:cw:=jQ (eA (bV (aQ (au lD (aa (mV 0) ao))))) (yK "NoWeb" (aa (mK (.str "this is no web")) ao)) d4
def cS:List D->M D:=pS 1 1 rY
def n5:cw:=aJ (sW (aQ (au cS (aa (mV 0) ao)))) (jQ (eA (bV (aQ (au dG (aa (aW bE (mV 0) (mK (.int 0))) (aa (mV 1) ao)))))) (yK "NoPlace" (aa (mK (.str "this is no place of the web")) ao)) d4)
def iQ:List D->M D:=pS 2 2 n5
def ko(F:List D->M D):gz:=kJ
def kq(F:List D->M D):gz:=kJ
def ku(F:List D->M D):TM:=aQ (aW cy (dq (aa (mV 1) ao)) (mV 2))
def gH(F:List D->M D):cw:=aJ (jQ (eS oE (mV 1) (mK (.int 0))) (bF (aQ (bp (aa (mK (.tup [])) ao)))) d4) (bF (aQ (m3 (G5 (mV 0)) (fV 2 (a9 (gN 0) (a9 (gN 1) eE))) (ko F) (bX (aQ (au F (aa (aQ (Bv (mV 3) (oS (aW cy (mV 0) (mK (.int 1)))) oN)) (aa (aW uI (mV 4) (mK (.int 1))) ao))))) (gN 2) (kq F) (ku F) [none,none,none,ar 0,ar 1])))
def eM:Nat->List D->M D
 |0=>λ_=>M.fail
 |n+1=>kN 2 2 (gH (eM n))
def bG:List D->M D:=eM 5
def iz:gz:=kJ
def iA:TM:=aQ (au jz (aa (mV 1) (aa (mV 2) (aa (mV 0) ao))))
def fK:gz:=bV (de yO (aQ (bj (lX (aW bE (mV 1) (mK (.int 0)))) (gN 0) iz iA [none,ar 1,ar 0])))
def fL:TM:=mV 0
def iR:cw:=aJ (sW (aQ (au cS (aa (mV 0) ao)))) (bF (JT (bj (bX (aQ (au jg (aa (mV 0) ao)))) (gN 0) fK fL [none,ar 0])))
def bf:List D->M D:=pS 1 1 iR
def oU:gz:=bV (aQ (au cJ (aa (mV 1) (aa (mV 2) (aa (mV 0) ao)))))
def oV:TM:=mV 0
def vh:cw:=aJ (sW (aQ (au iQ (aa (mV 0) (aa (mV 1) ao))))) (bF (aQ (JT (bj (lX (aW bE (mV 0) (mK (.int 0)))) (gN 0) oU oV [none,ar 0,ar 1]))))
def oW:List D->M D:=pS 2 2 vh
def jh:gz:=kJ
def ji:TM:=aQ (au cJ (aa (mV 2) (aa (mV 0) (aa (mV 1) ao))))
def pL:cw:=bF (FK (de yO (aQ (bj (bX (aQ (au bG (aa (mV 1) (aa (mK (.int 2)) ao))))) (fV 2 (a9 (gN 0) (a9 (gN 1) eE))) jh ji [none,none,ar 0]))))
def jD:List D->M D:=kN 2 2 pL
def jL:cw:=jQ (bV (aQ (au ft (aa (mV 0) (aa (mV 1) (aa (mV 2) ao)))))) (bF (dq (aa (mV 1) (aa (mV 2) ao)))) d4
def ky:cw:=aJ (ir (bX (aQ (au bG (aa (aQ (au bf (aa (mV 0) ao))) (aa (mK (.int 2)) ao))))) (fV 2 (a9 (gN 1) (a9 (gN 2) eE))) jL) (bF (mK .non))
def eN:List D->M D:=pS 3 1 ky
def dh(F:List D->M D):gz:=kJ
def di(F:List D->M D):TM:=aQ (au F (aa (mV 0) (aa (mV 1) ao)))
def cC(F:List D->M D):cw:=aJ (jQ (bV (KJ (mV 1) "tuple" "list")) (aJ (jQ (xQ (eS mB (iq (mV 0) "tuple") (iq (mV 1) "tuple")) (eS mB (iq (mV 0) "list") (iq (mV 1) "list"))) (bF (mK (.bl dt))) d4) (aJ (jQ (eS mB (de dm (mV 0)) (de dm (mV 1))) (bF (mK (.bl dt))) d4) (bF (de sS (aQ (bj (pG (mV 0) (mV 1)) (fV 2 (a9 (gN 0) (a9 (gN 1) eE))) (dh F) (di F) [none,none])))))) d4) (bF (pU (aW oE (mV 0) (mV 1)) (aW oE (iq (mV 0) "bool") (iq (mV 1) "bool"))))
def aU:Nat->List D->M D
 |0=>λ_=>M.fail
 |n+1=>kN 2 2 (cC (aU n))
def eO:List D->M D:=aU 6
def m8:gz:=kJ
def m9:gz:=bV (aQ (au jD (aa (mV 2) (aa (mV 1) ao))))
def ng:TM:=aQ (aW cy (dq (aa (mV 0) ao)) (mV 1))
def qr:cw:=aJ (sW (aQ (au cS (aa (mV 0) ao)))) (bF (JT (m3 (lX (aW bE (mV 0) (mK (.int 0)))) (gN 0) m8 (bX (aQ (au bG (aa (aQ (au oW (aa (mV 2) (aa (mV 0) ao)))) (aa (mK (.int 3)) ao))))) (gN 1) m9 ng [none,none,ar 0])))
def kz:List D->M D:=pS 1 1 qr
def eh:gz:=bV (aW bE (mV 1) (mV 0))
def eu:TM:=mV 0
def gi(fv:D)(cc:M D):cw:=aJ (bC 1 (mK .non)) (aJ (wN 0 2 1 fv cc) (aJ (bC 3 (aQ (bp (aa (fq (mV 1) "NoWeb") (aa (fq (mV 1) "NoPlace") (aa (fq (mV 1) "NoPlaces") ao)))))) (aJ (bC 3 (aQ (aW cy (mV 3) (aQ (bp (aa (fq (mV 1) "NoSharing") (aa (fq (mV 1) "NoRoot") (aa (fq (mV 1) "NoNumber") ao)))))))) (aJ (bC 3 (aQ (aW cy (mV 3) (aQ (bp (aa (fq (mV 1) "NotJoined") (aa (fq (mV 1) "NoTie") (aa (fq (mV 1) "NoText") ao)))))))) (aJ (bC 3 (aQ (aW cy (mV 3) (aQ (bp (aa (fq (mV 1) "NoLine") (aa (fq (mV 1) "NoDeed") (aa (fq (mV 1) "TooGreat") ao)))))))) (aJ (bC 3 (aQ (aW cy (mV 3) (aQ (bp (aa (fq (mV 1) "NoMap") ao)))))) (aJ (jQ (eA (bV (DI (mV 1)))) (bF (mK .non)) d4) (bF (aQ (bj (lX (mK (.int 13))) (gN 0) eh eu [none,ar 3]))))))))))
def bL:D->M D->List D->M D:=λfv cc es=>pS 4 1 (gi fv cc) (fv::es)
def bu:M D->List D->M D:=bL (.fn 0 0 "" [] [])
def lE:cw:=aJ (bC 6 (bp (aa (au kz (aa (mV 3) ao)) (aa (au bf (aa (mV 3) ao)) ao)))) (aJ (jQ (eA (bV (aQ (au eO (aa (mV 6) (aa (mV 4) ao)))))) (bF (mK (.bl dt))) d4) (sW (wC dE (aW bE (mV 6) (mV 5)) (mK (.tup [])))))
def ib:TM:=aQ (au kz (aa (mV 0) ao))
def ic:TM:=aQ (au bf (aa (mV 0) ao))
def ie:TM:=aQ (au eN (aa (mV 0) ao))
def lF:cw:=aJ (bC 2 (au iM (aa (mV 0) (aa (mV 1) ao)))) (aJ (bC 3 (aQ (au fP (aa (mV 2) (aa (aW bE (aQ (bp (aS (mK (.int 7)) (aS (mK (.int 14)) (aS (mK (.int 10)) (aS (mK (.int 8)) ao)))))) (aQ (au aD (aa (mV 2) (aa (mK (.int 4)) ao))))) ao))))) (aJ (bC 4 (aQ (bp (aa (aQ (au dI (aa (mV 3) ao))) (aa (aQ (au fO (aa (mV 3) ao))) ao))))) (aJ (ir (lX (mK (.int 2))) (gN 5) lE) (aJ (jQ (eA (bV (aQ (au eO (aa (aQ (au eN (aa (mV 3) ao))) (aa (aQ (au fR (aa (mV 3) (aa (aW bE (mV 4) (mK (.int 1))) ao)))) ao)))))) (bF (mK (.bl dt))) d4) (aJ (bC 7 (aQ (au gh (aa (mV 2) ao)))) (K1 8 (aJ (jQ (eS mB (ja [([7],ib),([7],ic),([7],ie)] bu) (aQ (aW xa (bp (aa (aQ (bp (aa (mK (.int 0)) ao))) ao)) (mK (.int 3))))) (bF (mK (.bl dt))) d4) d4)))))))
def D0:cw:=aJ (ir (lX (au maxD (aa (mK (.int 1)) (aa (au minD (aa (de dm (mV 0)) (aa (mK (.int 6)) ao))) ao)))) (gN 1) lF) (bF (mK (.bl cn)))
def t9:List D->M D:=kN 9 1 D0
theorem sX:2<=lim:=by unfold lim;omega
theorem K4:3<=lim:=by unfold lim;omega
theorem K5:HW (ar d::r) 0=a_ d:=rfl
theorem K6:HW (o0::ar d::r) 1=a_ d:=rfl
theorem K7:HW (o0::o1::ar d::r) 2=a_ d:=rfl
theorem K8:HW (o0::o1::o2::ar d::r) 3=a_ d:=rfl
theorem iS:gw S n (.int i)=ar (.int i):=by cases n<;>rfl
theorem vi:gw S n (.bl b)=ar (.bool b):=by cases n<;>rfl
theorem eq_int{Q:D->az->Prop}:runs (oE (.int a) (.int b)) S Q↔Q (.bl (decide (a=b))) S:=by
 unfold oE;rw[lY iS iS];have:f_ (.int a) (.int b)=decide (a=b):=by simp only[f_];rw[OU];simp
 rw[this]
theorem pM(l:List Bool):boolsOf (l.map D.bl)=ar l:=by
 induction l with
 |nil=>rfl
 |cons b l ih=>simp[boolsOf,ih]
theorem cD:(S++[xs])[S.length]? =ar xs:=by simp
theorem K9{Q:D->az->Prop}:runs (oE (.bl a) (.bl b)) S Q↔Q (.bl (a==b)) S:=by
 unfold oE;rw[lY vi vi];have:f_ (.bool a) (.bool b)=(a==b):=by cases a<;>cases b<;>simp[f_]
 rw[this]
theorem BP{α:Type}(a:α):oM (a_ a:M α)=a_ a:=rfl
theorem Gd{α β:Type}{c:Prop} [Decidable c]{a b:M α}{f:α->M β}:((if c then a else b)>>=f)=if c then a>>=f else b>>=f:=by split<;>rfl
theorem cT{α:Type}(l:List α):l.filter (λ_=>cn)=l:=List.filter_eq_self.mpr λ_ _=>rfl
theorem dj{m:cw}{ds:List D}(h:m (ds.map ar++ey (N - n) none)=a_ o)(Z:outD o=a_ d)(Y:ds.length=n:=by rfl):kN N n m ds=a_ d:=by unfold kN pS;rw[if_pos Y];show(oM (m _)>>=outD)=_;rw[h,BP,aj,Z]
theorem vj{m n:TM}(Z:m ρ=a_ x)(Y:n ρ=a_ y):Cg m n ρ=lS [x,y]:=by
 have:aa m (aa n ao) ρ=a_ [x,y]:=by unfold aa;rw[Z,aj,Y,aj];rfl
 unfold Cg;rw[this,aj]
theorem oX{m:TM}(Z:m ρ=a_ x):lX m ρ=mW [x]:=by
 have:aa m ao ρ=a_ [x]:=by unfold aa;rw[Z,aj];rfl
 unfold lX;rw[this,aj]
theorem Ge(h: -(2 ^ 62)<=i/\i<2 ^ 62/\ -(2 ^ 62)<=j/\j<2 ^ 62):lS [.int i,.int j]=a_ ⟨bD i (j - i).toNat,.none⟩:=by unfold lS;exact if_pos h
theorem yV(h: -(2 ^ 62)<=j/\j<2 ^ 62):mW [.int j]=a_ ⟨bD 0 j.toNat,.none⟩:=by unfold mW;exact if_pos h
theorem cg{f:D->D->M D}{m n:TM}(Y:m ρ=a_ x)(Z:n ρ=a_ y):aW f m n ρ=f x y:=by unfold aW;rw[Y,aj,Z,aj]
theorem Jb{bs:List Bool}:yO [.fz (bs.map D.bl)]=a_ (.bl (bs.any id)):=by show(match boolsOf (bs.map D.bl)with|some bs=>(a_ (D.bl (bs.any id)):M D)|none=>M.fail)=_;rw[pM]
theorem jE{f:List D->M D}{m:TM}(h:m ρ=a_ x):de f m ρ=f [x]:=by
 have:aa m ao ρ=a_ [x]:=by unfold aa;rw[h,aj];rfl
 unfold de au;rw[this,aj]
theorem cL{m:TM}(h:m ρ=a_ x):bF m ρ=a_ (.ret x):=by unfold bF;rw[h];rfl
theorem rZ(bs:List Bool):bY 0 (bs.map D.bl)=true:=by
 induction bs with
 |nil=>rfl
 |cons x r ih=>rw[NH];unfold bY;rw[ih];unfold fY;rfl
theorem n6{mi:aF->M Iter}{g:mw}{t:gz}{m:TM}(R:aF->Prop)(q:D->Bool)(f:D->D)(Y:mi ρ=a_ ⟨its,.none⟩)(Z:its.length<=lim)(X:R (fS js ρ))(W:∀d∈its,∀ ρ,R ρ->∃ ρ1,g d ρ=a_ ρ1/\R ρ1/\t ρ1=a_ (q d)/\(q d=cn->m ρ1=a_ (f d)))
  (U:bY 0 ((its.filter q).map f)=cn):aQ (bj mi g t m js) ρ=a_ (.fz ((its.filter q).map f)):=by
 have e:bj mi g t m js ρ=bx ((its.filter q).map f):=by unfold bj;rw[Y,aj,Ai R q f Z X W,aj]
 unfold aQ;rw[e];exact e9 U (by rw[Nl];exact Nv (Ob _ _) Z)
section
variable {m n:cw}{ρ ρ':aF}{e e1 e2:TM}{x y d:D}{t:gz}{b:Bool}{o:Out}{N k:Nat}{ds:List D}{F:List D->M D}
theorem a7(h:m ρ=a_ (.nx ρ')):aJ m n ρ=n ρ':=by unfold aJ;rw[h];rfl
theorem ig(h:m ρ=a_ (.ret d)):aJ m n ρ=a_ (.ret d):=by unfold aJ;rw[h];rfl
theorem nh(h:m ρ=M.raise x):aJ m n ρ=M.raise x:=by unfold aJ;rw[h];rfl
theorem Al(h:e ρ=a_ x):sW e ρ=a_ (.nx ρ):=by unfold sW;rw[h];rfl
theorem xc(h:e ρ=M.raise x):sW e ρ=M.raise x:=by unfold sW;rw[h];rfl
theorem iB(h:e ρ=a_ x):bC i e ρ=a_ (.nx (ρ.set i (ar x))):=by unfold bC;rw[h];rfl
theorem bU(h:t ρ=a_ b):jQ t m n ρ=if b=cn then m ρ else n ρ:=by unfold jQ;rw[h];rfl
theorem cU{f:D->D->M D}(Z:e1 ρ=a_ x)(Y:e2 ρ=a_ y)(h:f x y=a_ (.bl b)):eS f e1 e2 ρ=a_ b:=by unfold eS;rw[Z,aj,Y,aj,h];rfl
theorem dW(h:e ρ=a_ x):au F (aa e ao) ρ=F [x]:=jE h
theorem kA(h:e ρ=a_ x):aQ e ρ=a_ x:=by unfold aQ;rw[h];exact Ah
theorem Jc(h:e ρ=M.raise x):aQ e ρ=M.raise x:=by unfold aQ;rw[h];exact DR
theorem vk(h:m (ds.map ar++ey (N - k) none)=a_ o)(Z:outD o=a_ d)(Y:ds.length=k:=by rfl):pS N k m ds=a_ d:=by unfold pS;rw[if_pos Y,h,aj,Z]
theorem j4(h:m (ds.map ar++ey (N - k) none)=M.raise x)(Z:ds.length=k:=by rfl):pS N k m ds=M.raise x:=by unfold pS;rw[if_pos Z,h];rfl
end
theorem ua:oM (bx us)=bx us:=by
 funext S;unfold oM bx;by_cases h:us.length<=lim
 ·rw[if_pos h]
 ·rw[if_neg h]
theorem call2{F:List D->M D}{e1 e2:TM}(Y:e1 ρ=a_ x)(Z:e2 ρ=a_ y):au F (aa e1 (aa e2 ao)) ρ=F [x,y]:=by
 have:aa e1 (aa e2 ao) ρ=a_ [x,y]:=by unfold aa;rw[Y,aj,Z,aj];rfl
 unfold au;rw[this,aj]
theorem dX{e:TM}(h:e ρ=a_ (.bl b)):bV e ρ=a_ b:=by unfold bV;rw[h];rfl
theorem yW{us:List D}(h:us.length<=lim):gx [.fz us]=a_ (.tup us):=by show bP us=_;unfold bP;rw[if_pos h]
section
variable {α β:Type}{c:M α}{f:α->M β}{S S1:az}{a:α}
theorem aI(h:c S=ar (.ok a,S1)):(c>>=f) S=f a S1:=by show M.bnd c f S=_;unfold M.bnd;rw[h]
end
section
variable {m n:cw}{ρ ρ':aF}{e e1 e2:TM}{x y:D}{S S1 S2:az}{c:M D}{f:D->List D->M D}{F:List D->M D}
theorem aL(h:m ρ S=ar (.ok (.nx ρ'),S1)):aJ m n ρ S=n ρ' S1:=aI h
theorem mG(h:e ρ S=ar (.ok x,S1)):sW e ρ S=ar (.ok (.nx ρ),S1):=aI h
theorem bJ(h:e ρ S=ar (.ok x,S1)):bC i e ρ S=ar (.ok (.nx (ρ.set i (ar x))),S1):=aI h
theorem eP(h:e ρ S=ar (.ok x,S1)):bF e ρ S=ar (.ok (.ret x),S1):=aI h
theorem cM{us:List D}(h:us.length<=lim):bx us S=ar (.ok (.lst S.length),S++[us]):=by unfold bx;exact if_pos h
theorem cH(h:S[p]? =ar us):getL p S=ar (.ok us,S):=by unfold getL;rw[h];rfl
theorem kB{us:List D}(h:us.length<=lim)(Z:p<S.length):mx p us S=ar (.ok .non,S.set p us):=by unfold mx;exact if_pos ⟨h,Z⟩
theorem j5(h:e ρ S=ar (.ok x,S1)):de F e ρ S=F [x] S1:=by unfold de au;rw[aI (a:=[x]) (S1:=S1)];show(e ρ>>=_) S=_;rw[aI h];rfl
theorem jM(Z:e1 ρ S=ar (.ok x,S1))(Y:e2 ρ S1=ar (.ok y,S2)):dq (aa e1 (aa e2 ao)) ρ S=ar (.ok (.tup [x,y]),S2):=by
 unfold dq;rw[aI (a:=[x,y]) (S1:=S2)]
 ·unfold bP;rw[if_pos (show[x,y].length<=lim from sX)];rfl
 ·show(e1 ρ>>=_) S=_;rw[aI Z];show(((e2 ρ>>=_)>>=_):M (List D)) S1=_;rw[aI (a:=[y]) (S1:=S2)]
  ·rfl
  ·rw[aI Y];rfl
end
theorem da:dC ⟨its,.none⟩ g b [] ρ=a_ (.nx ρ):=by unfold dC;rw[cQ];rfl
theorem d6{g:mw}{b:cw}(h:g d ρ=a_ ρ1)(Z:b ρ1 S=ar (.ok (.nx ρ2),S1)):dC ⟨its,.none⟩ g b (d::ds) ρ S=dC ⟨its,.none⟩ g b ds ρ2 S1:=by rw[dC,cQ,aj,h,aj,aI Z]
theorem eQ{m:cw}{ds:List D}(h:m (ds.map ar++ey (N - n) none) S=ar (.ok o,S1))(Z:outD o=a_ d)(Y:ds.length=n:=by rfl):kN N n m ds S=ar (.ok d,S1):=by
 unfold kN pS;rw[if_pos Y,aI (a:=o) (S1:=S1),Z]
 ·rfl
 ·show oM (m _) S=_;unfold oM;rw[h]
theorem gI{mi:aF->M Iter}(Z:mi ρ=a_ ⟨its,.none⟩)(h:dC ⟨its,.none⟩ g b its ρ S=ar (.ok o,S1)):ir mi g b ρ S=ar (.ok o,S1):=by unfold ir;rw[Z,aj];exact h
theorem Ng:oE (.int i) (.int i)=a_ (.bl cn):=cO λS=>eq_int.mpr ⟨by rw[NI rfl],rfl⟩
theorem MV:oE (.bl b) (.bl b)=a_ (.bl cn):=cO λS=>K9.mpr ⟨by rw[beq_self_eq_true],rfl⟩
theorem MF:mB (.bl b) (.bl b)=a_ (.bl dt):=cO λS=>by unfold mB;refine(lY vi vi).mpr ⟨?_,rfl⟩;cases b<;>rfl
theorem MW:mB (.int i) (.int i)=a_ (.bl dt):=cO λS=>by unfold mB;refine(lY iS iS).mpr ⟨?_,rfl⟩;simp[f_]
theorem sd{bs:List Bool}:sS [.fz (bs.map D.bl)]=a_ (.bl (bs.all id)):=by show(match boolsOf (bs.map D.bl)with|some bs=>(a_ (D.bl (bs.all id)):M D)|none=>M.fail)=_;rw[pM]
theorem xf:∀{xs:List D},d∈(xs.zip xs).map (λp:D×D=>D.tup [p.1,p.2])->∃x∈xs,d= .tup [x,x]
 | x::r,h=>by
  rw[Qb,NH,NJ]at h;rcases h with rfl|h
  ·exact⟨x,.head _,rfl⟩
  ·obtain⟨y,Z,e⟩:=xf h;exact⟨y,.tail _ Z,e⟩
theorem bb{e:TM}{es:aF->M (List D)}(Y:e ρ=a_ x)(Z:es ρ=a_ ys):aa e es ρ=a_ (x::ys):=by unfold aa;rw[Y,aj,Z];rfl
section
variable {e1 e2:TM}{f:D->D->M D}{x y:D}{S S1 S2:az}{ρ:aF}{F:List D->M D}
theorem jj(Z:e1 ρ S=ar (.ok x,S1))(Y:e2 ρ S1=ar (.ok y,S2)):aW f e1 e2 ρ S=f x y S2:=by unfold aW;rw[aI Z,aI Y]
theorem cb{es:aF->M (List D)}(Y:e1 ρ S=ar (.ok x,S1))(Z:es ρ S1=ar (.ok ys,S2)):aa e1 es ρ S=ar (.ok (x::ys),S2):=by unfold aa;rw[aI Y,aI Z];rfl
theorem Am(h:S[p]? =ar us)(Z:jT us j=ar x):bE (.lst p) (.int j) S=ar (.ok x,S):=by show(getL p>>=λxs=>match jT xs j with|some d=>(a_ d:M D)|none=>M.fail) S=_;rw[aI (cH h),Z];rfl
theorem jk{es:aF->M (List D)}(h:es ρ S=ar (.ok ys,S1))(Z:ys.length<=lim):bp es ρ S=ar (.ok (.lst S1.length),S1++[ys]):=by unfold bp;rw[aI h];exact cM Z
theorem vm(Y:S[a]? =ar xs)(Z:S[b]? =ar ys)(X:(xs++ys).length<=lim):cy (.lst a) (.lst b) S=ar (.ok (.lst S.length),S++[xs++ys]):=by show(getL a>>=λxs=>getL b>>=λys=>bx (xs++ys)) S=_;rw[aI (cH Y),aI (cH Z)];exact cM X
end
def yX:D->Bool
 | .int _=>cn
 |_=>dt
abbrev D1(d:D):Prop:=Ig d=cn
def se:D->Bool
 | .tup [_,_]=>cn
 |_=>dt
def iD(many:Int):D->Bool
 | .int i=>decide (0<=i) && decide (i<many)
 |_=>dt
def kO(many:Int):D->Bool
 | .tup [a,b]=>iD many a && (iD many b && match a,b with| .int i,.int j=>decide (i<j)|_,_=>dt)
 |_=>dt
def MG(d:D):Prop:=D1 d/\∀ds,d= .tup ds->∀x∈ds,D1 x
theorem l8(h:iD many d=cn):∃i,d= .int i/\0<=i/\i<many:=by
 cases d with
 |int i=>exact⟨i,rfl,by simpa [iD]using h⟩
 |_=>cases h
def vn:D->D->Bool
 | .tup xs,.tup ys=>match intsOf xs,intsOf ys with
  |some a,ar b=>HT.lexLt a b
  |_,_=>dt
 |_,_=>dt
def vo:List D->Bool
 |a::b::r=>vn a b && vo (b::r)
 |_=>cn
def An(d:D):Prop:=∃ds ns,d= .tup ds/\intsOf ds=ar ns
theorem Ao:∀l:List D,((l.zip (l.drop 1)).map λp=>vn p.1 p.2).all id=vo l
 |[]=>rfl
 |[_]=>rfl
 |a::b::r=>by
  have:=Ao (b::r);simp only[List.drop_succ_cons,List.drop_zero,J',Sd,Si,id]at this⊢;rw[vo, <-this]
theorem MH(l:List D):S3.cutD l (ar 1) none=l.drop 1:=by
 unfold S3.cutD HT.sIx;cases l with
 |nil=>rfl
 |cons a r=>simp
def LH(d:D):Prop:=D1 d/\∀ds,d= .tup ds->∀x∈ds,D1 x/\∀ts,x= .tup ts->∀t∈ts,MG t
def iT:D->Bool
 | .tup [.int many,.tup ties]=>decide (0<=many) && (decide (many<=14) && (ties.all (kO many) && vo ties))
 |_=>dt
theorem Gf(h:kO many d=cn):∃i j,d= .tup [.int i,.int j]/\0<=i/\i<j/\j<many:=by
 unfold kO at h;split at h
 ·next a b=>
  simp only[k']at h;obtain⟨U,Y,Z⟩:=h;obtain⟨i,rfl,X,T⟩:=l8 U;obtain⟨j,rfl,S,W⟩:=l8 Y;simp only[decide_eq_true_eq]at Z;exact⟨i,j,rfl,X,Z,W⟩
 ·cases h
theorem BQ(h:kO many d=cn):An d:=by obtain⟨i,j,rfl,_⟩:=Gf h;exact⟨_,[i,j],rfl,rfl⟩
section
variable {many:Int}{d:D}{ρ:aF}{e1 e2:TM}{b:Bool}{y:D}
theorem and_eq(Y:e1 ρ=a_ (.bl b))(X:b=cn->e2 ρ=a_ y)(Z:b=dt->y= .bl dt):pU e1 e2 ρ=a_ y:=by
 unfold pU;rw[Y];cases b with
 |true=>exact X rfl
 |false=>rw[Z rfl];rfl
theorem G8{a b:Int}:oE (.int a) (.int b)=a_ (.bl (decide (a=b))):=cO λS=>eq_int.mpr ⟨rfl,rfl⟩
theorem Ap(h:D1 d):c8 [d]=a_ (.bl (yX d)):=by cases d<;>first|rfl|cases h
theorem vp(h:D1 d):dZ [d]=a_ (.bl (se d)):=by
 cases d with
 |tup ds=>
  refine dj (cL (and_eq (b:=cn) rfl (λ_=>(cg (y:=.int 2) (jE (x:=.tup ds) rfl) rfl).trans G8) (λe=>by cases e))) ?_;show a_ (D.bl (decide ((ds.length:Int)=2)))=_
  match ds with
  |[]=>rfl
  |[_]=>rfl
  |[_,_]=>rfl
  |_::_::_::r=>rw[N7 (by simp only[r7];omega)];rfl
 |_=>first|rfl|cases h
theorem vt(h:D1 d):dG [.int many,d]=a_ (.bl (iD many d)):=by
 cases d with
 |int i=>
  refine dj (cL (and_eq (b:=cn) ((dW rfl).trans (Ap h)) (λ_=>?_) (λe=>by cases e))) rfl;show(if decide (0<=i)=cn then (a_ (D.bl (decide (i<many))):M D)else a_ (.bl dt))=a_ (.bl (decide (0<=i) && decide (i<many)));by_cases h0:0<=i
  ·rw[if_pos (NI h0),NI h0,OF]
  ·rw[if_neg (by rw[NV];exact h0),N7 h0,OS]
 |_=>first|rfl|cases h
theorem Aq(h:se d=cn):∃a b,d= .tup [a,b]:=by
 unfold se at h;split at h
 ·exact⟨_,_,rfl⟩
 ·cases h
theorem vv{b:D}:kO many (.tup [a,b])=(iD many a && (iD many b && match a,b with| .int i,.int j=>decide (i<j)|_,_=>dt)):=rfl
theorem Jd(h:MG d):n4 [.int many,d]=a_ (.bl (kO many d)):=by
 by_cases hp:se d=cn
 ·obtain⟨a,b,rfl⟩:=Aq hp;have W:D1 a:=h.2 _ rfl a (.head _);have X:D1 b:=h.2 _ rfl b (.tail _ (.head _));refine dj (o:=.ret (.bl (kO many (.tup [a,b])))) ?_ rfl;unfold rW;have Y:eA (bV (au dZ (aa (mV 1) ao))) [ar (.int many),ar (.tup [a,b]),none,none]=a_ false:=by
   show(bV _ _>>=_)=_;rw[dX ((dW rfl).trans (vp h.1))];rfl
  refine(a7 (ρ':=[ar (.int many),ar (.tup [a,b]),none,none]) ((bU Y).trans (if_neg (by decide)))).trans ((a7 (ρ':=[ar (.int many),ar (.tup [a,b]),ar a,ar b]) rfl).trans (cL ?_));refine and_eq (b:=iD many a) ((call2 rfl rfl).trans (vt W)) (λk1=>and_eq (b:=iD many b) ((call2 rfl rfl).trans (vt X)) (λk2=>?_) λk2=>?_) λk1=>?_
  ·obtain⟨i,rfl,_⟩:=l8 k1;obtain⟨j,rfl,_⟩:=l8 k2;rw[vv,k1,k2];rfl
  ·rw[vv,k2,OS,RI]
  ·rw[vv,k1,OS]
 ·have Z:se d=false:=by rw[<-P1];exact hp
  have Y:eA (bV (au dZ (aa (mV 1) ao))) [ar (.int many),ar d,none,none]=a_ true:=by show(bV _ _>>=_)=_;rw[dX ((dW rfl).trans (vp h.1)),Z];rfl
  refine(dj (o:=.ret (.bl dt)) (ig ((bU Y).trans (if_pos rfl))) rfl).trans ?_;unfold kO;split
  ·cases hp rfl
  ·rfl
theorem Je{a b:D}(Y:An a)(Z:An b):qc a b=a_ (.bl (vn a b)):=by obtain⟨xs,ns,rfl,e1⟩:=Y;obtain⟨ys,ms,rfl,e2⟩:=Z;simp only[qc,e1,e2,vn]
def MX:D->D
 | .tup [a,b]=>.bl (vn a b)
 |_=>.non
theorem D3(h:∀t∈ts,An t)(W:ts.length<=1000):hV [.tup ts]=a_ (.bl (vo ts)):=by
 have em:(((ts.zip (ts.drop 1)).map λp:D×D=>D.tup [p.1,p.2]).filter λ_=>cn).map MX=((ts.zip (ts.drop 1)).map λp=>vn p.1 p.2).map D.bl:=by rw[cT,NK,NK];rfl
 have hs:aQ (Bv (mV 0) (oS (mK (.int 1))) oN) [ar (.tup ts)]=a_ (.tup (ts.drop 1)):=by refine kA (?_ :bP (S3.cutD ts (ar 1) none)=_);rw[MH];unfold bP;exact if_pos (by rw[O9];unfold lim;omega)
 have X:pG (mV 0) (aQ (Bv (mV 0) (oS (mK (.int 1))) oN)) [ar (.tup ts)]=a_ ⟨(ts.zip (ts.drop 1)).map λp:D×D=>D.tup [p.1,p.2],.none⟩:=by unfold pG;rw[bb (x:=.tup ts) rfl (bb hs rfl)];rfl
 have Y:=n6 (g:=fV 2 (a9 (gN 0) (a9 (gN 1) eE))) (t:=jb) (m:=jc) (js:=[none,none]) (λρ=>∃x y,ρ=[x,y]) (λ_=>cn) MX X (by rw[Nl,RC];unfold lim;omega) ⟨none,none,rfl⟩
  (λd hd ρ ⟨x,y,hρ⟩=>by subst hρ;obtain⟨⟨a,b⟩,Z,rfl⟩:=NL.mp hd;exact⟨_,rfl,⟨_,_,rfl⟩,rfl,λ_=>(cg (x:=a) (y:=b) rfl rfl).trans (Je (h a (Qa Z).1) (h b (QK (Qa Z).2)))⟩) (by rw[em];exact rZ _)
 rw[em]at Y;refine dj (cL ((jE Y).trans sd)) ?_;rw[Ao];rfl
theorem Jf(h:LH d)(T:∀m ts,d= .tup [m,.tup ts]->ts.length<=1000):lD [d]=a_ (.bl (iT d)):=by
 by_cases hp:se d=cn
 ·obtain⟨a,t,rfl⟩:=Aq hp;obtain⟨L,_⟩:=h.2 _ rfl a (.head _);obtain⟨P,S⟩:=h.2 _ rfl t (.tail _ (.head _));refine dj (o:=.ret (.bl (iT (.tup [a,t])))) ?_ rfl;unfold rX;have R:eA (bV (aQ (au dZ (aa (mV 0) ao)))) [ar (.tup [a,t]),none,none]=a_ false:=by
   show(bV _ _>>=_)=_;rw[dX (kA ((dW rfl).trans (vp h.1)))];rfl
  refine(a7 (ρ':=[ar (.tup [a,t]),none,none]) ((bU R).trans (if_neg (by decide)))).trans ((a7 (ρ':=[ar (.tup [a,t]),ar a,ar t]) rfl).trans ?_);have hw:eA (bV (aQ (au c8 (aa (mV 1) ao)))) [ar (.tup [a,t]),ar a,ar t]=a_ (!yX a):=by show(bV _ _>>=_)=_;rw[dX (kA ((dW rfl).trans (Ap L)))];rfl
  have X:∀{p q:gz} {b:Bool} {ρ:aF},p ρ=a_ b->xQ p q ρ=if b=cn then a_ cn else q ρ:=λ{p q b ρ} e=>by show(p ρ>>=_)=_;rw[e];rfl
  have no:∀{q:gz},xQ (eA (bV (aQ (au c8 (aa (mV 1) ao))))) q [ar (.tup [a,t]),ar a,ar t]=a_ cn->aJ (jQ (xQ (eA (bV (aQ (au c8 (aa (mV 1) ao))))) q) (bF (mK (.bl dt))) d4) (bF (pU (de sS (aQ (bj (bX (mV 2)) (gN 0) jB jC [none,ar 1]))) (aQ (au hV (aa (mV 2) ao))))) [ar (.tup [a,t]),ar a,ar t]=a_ (.ret (.bl dt)):=λe=>ig ((bU e).trans (if_pos rfl));by_cases ew:yX a=cn
  ·cases a with
   | int many=>
    rw[ew]at hw;have U:eA (yE HY HY (mK (.int 0)) (mV 1) (mK (.int 14))) [ar (.tup [.int many,t]),ar (.int many),ar t]=a_ (!(decide (0<=many) && decide (many<=14))):=by
     show(((if decide (0<=many)=cn then (a_ (D.bl (decide (many<=14))):M D)else a_ (.bl dt))>>=kQ)>>=_)=_;by_cases h0:0<=many
     ·rw[if_pos (NI h0),NI h0,OF];rfl
     ·rw[if_neg (by rw[NV];exact h0),N7 h0,OS];rfl
    by_cases hr:(decide (0<=many) && decide (many<=14))=cn
    ·rw [hr]at U;cases t with
     | tup ts=>
      have O:=T _ ts rfl;have N:xQ (eA (bV (aQ (au c8 (aa (mV 1) ao))))) (xQ (eA (yE HY HY (mK (.int 0)) (mV 1) (mK (.int 14)))) (eA (bV (iq (mV 2) "tuple")))) [ar (.tup [.int many,.tup ts]),ar (.int many),ar (.tup ts)]=a_ false:=by rw[X hw,if_neg (by decide),X U,if_neg (by decide)];rfl
      refine(a7 ((bU N).trans (if_neg (by decide)))).trans (cL ?_);have em:(ts.filter λ_=>cn).map (λd=>D.bl (kO many d))=(ts.map (kO many)).map D.bl:=by rw[cT,NK];rfl
      have hm:=n6 (mi:=bX (mV 2)) (ρ:=[ar (.tup [.int many,.tup ts]),ar (.int many),ar (.tup ts)]) (g:=gN 0) (t:=jB) (m:=jC) (js:=[none,ar 1]) (its:=ts) (λρ=>∃x,ρ=[x,ar (.int many)]) (λ_=>cn) (λd=>.bl (kO many d)) rfl (by unfold lim;omega) ⟨none,rfl⟩
       (λd hd ρ ⟨x,hρ⟩=>by subst hρ;exact⟨_,rfl,⟨_,rfl⟩,rfl,λ_=>kA ((call2 (x:=.int many) (y:=d) rfl rfl).trans (Jd (S ts rfl d hd)))⟩) (by rw[em];exact rZ _)
      rw[em]at hm;have W:(ts.map (kO many)).all id=ts.all (kO many):=by rw[QA];rfl
      have Y:iT (.tup [.int many,.tup ts])=(ts.all (kO many) && vo ts):=by show(decide (0<=many) && (decide (many<=14) && (ts.all (kO many) && vo ts)))=_;rw[<-Bool.and_assoc,hr,OF]
      rw[Y];refine and_eq (b:=ts.all (kO many)) ((jE hm).trans (sd.trans (by rw[W]))) (λZ=>?_) λZ=>by rw[Z];rfl
      rw[Z,OF];exact kA ((dW rfl).trans (D3 (λt P=>BQ (N6.mp Z t P)) O))
     |_=>first|exact no (by rw[X hw,if_neg (by decide),X U,if_neg (by decide)];rfl)|cases P
    ·have Y:iT (.tup [.int many,t])=false:=by
      cases t<;>first|rfl|(show(decide (0<=many) && (decide (many<=14) && _))=dt;rw[<-Bool.and_assoc,P1 _ |>.mp hr,OS])
     rw[Y];rw[P1 _ |>.mp hr]at U;exact no (by rw[X hw,if_neg (by decide),X U];rfl)
   |_=>cases ew
  ·have Y:iT (.tup [a,t])=false:=by cases a<;>first|rfl|exact absurd rfl ew
   rw[Y];exact no (by rw[X hw,P1 _ |>.mp ew];rfl)
 ·have Q:se d=false:=by rw[<-P1];exact hp
  have R:eA (bV (aQ (au dZ (aa (mV 0) ao)))) [ar d,none,none]=a_ true:=by show(bV _ _>>=_)=_;rw[dX (kA ((dW rfl).trans (vp h.1))),Q];rfl
  refine(dj (o:=.ret (.bl dt)) (ig ((bU R).trans (if_pos rfl))) rfl).trans ?_;unfold iT;split
  ·cases hp rfl
  ·rfl
end
def eB(S:az)(k:Nat):Prop:=∃st b,S[k]? =ar [.int st,.bl b]/\0<=st/\(b=dt->st<2147483647)
theorem eB.lt{S:az}{k:Nat}(h:eB S k):k<S.length:=let ⟨_,_,e,_⟩:=h;(Nt.mp e).1
theorem pN{t:gz}{m n:cw}{ρ:aF}{b:Bool}{S S1:az}(h:t ρ S=ar (.ok b,S1)):jQ t m n ρ S=if b=cn then m ρ S1 else n ρ S1:=by show(t ρ>>=λc=>if c=cn then m ρ else n ρ) S=_;rw[aI h];split<;>rfl
section
variable {S:az}{k:Nat}{st x y many:Int}{b:Bool}{r:List (Option D)}{e1 e2:TM}{ρ:aF}
theorem JU(e:S[k]? =ar [.int st,.bl b]):aW bE (mV 0) (mK (.int 0)) (ar (.lst k)::r) S=ar (.ok (.int st),S):=Am e rfl
theorem kf(Z:e1 ρ S=ar (.ok (.int x),S))(Y:e2 ρ S=ar (.ok (.int y),S))(h:0<y):aW uK e1 e2 ρ S=ar (.ok (.int (x % y)),S):=
 (jj Z Y).trans (N0 (if_pos h:(if 0<y then (a_ (D.int (x % y)):M D)else M.fail)=_) S)
theorem sf(Z:e1 ρ S=ar (.ok (.int x),S))(Y:e2 ρ S=ar (.ok (.int y),S))(h:xW x y):aW uJ e1 e2 ρ S=ar (.ok (.int (x*y)),S):=
 (jj Z Y).trans (N0 (if_pos h:(if xW x y then (a_ (D.int (x*y)):M D)else M.fail)=_) S)
theorem D4(Z:e1 ρ S=ar (.ok (.int x),S))(Y:e2 ρ S=ar (.ok (.int y),S))(h:Cs x y):aW zN e1 e2 ρ S=ar (.ok (.int (x / y)),S):=
 (jj Z Y).trans (N0 (if_pos h:(if Cs x y then (a_ (D.int (x / y)):M D)else M.fail)=_) S)
theorem vw(Z:e1 ρ S=ar (.ok (.int x),S))(Y:e2 ρ S=ar (.ok (.int y),S)):aW cy e1 e2 ρ S=ar (.ok (.int (x+y)),S):=(jj Z Y).trans rfl
theorem La(e:S[k]? =ar [.int st,.bl b])(h:e1 (ar (.lst k)::r) S=ar (.ok (.int x),S)):pV e1 (LD (mV 0) (mK (.int 0))) (ar (.lst k)::r) S=ar (.ok (.nx (ar (.lst k)::r)),S.set k [.int x,.bl b]):=by
 have Y:la (.lst k) (.int 0) (.int x) S=ar (.ok (),S.set k [.int x,.bl b]):=by show(getL k>>=_) S=_;rw[aI (cH e)];exact aI (kB (us:=[.int x,.bl b]) sX (Nt.mp e).1)
 have Z:LD (mV 0) (mK (.int 0)) (.int x) (ar (.lst k)::r) S=ar (.ok (ar (.lst k)::r),S.set k [.int x,.bl b]):=aI Y;show(e1 _>>=_) S=_;rw[aI h];exact aI Z
theorem lG{m n:cw}{d:D}{S1:az}(h:m ρ S=ar (.ok (.ret d),S1)):aJ m n ρ S=ar (.ok (.ret d),S1):=aI h
end
theorem Jg{S:az}{k:Nat}{many:Int}{Q:D->az->Prop}(hs:eB S k)(Y:0<many)(N:many<1073741824)
  (U:∀j S',0<=j->j<many->S'.length=S.length->(∀i,i≠k->S'[i]? =S[i]?)->eB S' k->Q (.int j) S'):runs (aD [.lst k,.int many]) S Q:=by
 have T:=hs.lt;obtain⟨st,b,e,O,P⟩:=hs;have q:∀x:Int,0<=x % many/\x % many<many:=λx=>⟨Qh _ (by omega),PD _ Y⟩;have X:bV (aW bE (mV 0) (mK (.int 1))) [ar (.lst k),ar (.int many),none,none] S=ar (.ok b,S):=aI (Am (x:=.bl b) e rfl);have Z:∀(ys:List D) i,i≠k->(S.set k ys)[i]? =S[i]? :=λys i L=>Ou (k_ L);cases b with
 |true=>
  refine⟨_,_,eQ (o:=.ret (.int (st % many))) (S1:=S.set k [.int (st / many),.bl cn]) ?_ rfl,U _ _ (q _).1 (q _).2 (by simp) (Z _) ⟨_,cn,NO T,Int.ediv_nonneg O (by omega),λz=>by cases z⟩⟩;exact lG ((pN X).trans ((aL (bJ (kf (JU e) rfl Y))).trans ((aL (La e (D4 (JU e) rfl ⟨Y,N⟩))).trans (eP rfl))))
 |false=>
  have J:=P rfl;generalize hst:(st*48271+29) % 2147483647=st';have s1:0<=st':=by rw[<-hst];exact Qh _ (by decide)
  have s2:st'<2147483647:=by rw[<-hst];exact PD _ (by decide)
  have e1:(S.set k [.int st',.bl dt])[k]? =ar [.int st',.bl dt]:=NO T;have R:=La (r:=[ar (.int many),none,none]) e (kf (vw (sf (JU e) (e2:=mK (.int 48271)) rfl (.inr ⟨by decide,by decide⟩)) (e2:=mK (.int 29)) rfl) (e2:=mK (.int 2147483647)) rfl (by decide));rw[hst]at R;have W:∀r,aW uK (aW cy (aW cy (aW uJ (aW bE (mV 0) (mK (.int 0))) (aW bE (mV 0) (mK (.int 0)))) (aW uJ (mK (.int 39373)) (aW bE (mV 0) (mK (.int 0))))) (mK (.int 7))) (mK (.int 2147483629)) (ar (.lst k)::r) (S.set k [.int st',.bl dt])=_:=λr=>kf (vw (vw (sf (JU e1) (JU e1) (.inl ⟨by omega,by omega⟩)) (sf rfl (JU e1) (.inl ⟨by decide,by decide⟩))) rfl) rfl (by decide);generalize hx:(st'*st'+39373*st'+7) % 2147483629=x at W;have K:0<=x:=by rw[<-hx];exact Qh _ (by decide)
  have I:x<2147483629:=by rw[<-hx];exact PD _ (by decide)
  refine⟨_,_,eQ (o:=.ret (.int ((x*x+16807*x) % 2147483587 / 8 % many))) (S1:=S.set k [.int st',.bl dt]) ?_ rfl,U _ _ (q _).1 (q _).2 (by simp) (Z _) ⟨_,dt,e1,s1,λ_=>s2⟩⟩;exact(aL (pN X)).trans ((aL R).trans ((aL (bJ (W _))).trans ((aL (bJ (kf (vw (sf rfl rfl (.inl ⟨by omega,by omega⟩)) (sf rfl rfl (.inl ⟨by decide,by decide⟩))) rfl (by decide)))).trans (eP (kf (D4 rfl rfl ⟨by decide,by decide⟩) rfl Y)))))
theorem Jh{S:az}{ns:List Int}{k:Nat}:∃i,eJ [.ro (ns.map D.int),.int k] S=ar (.ok (.int i),S):=by
 have Z:eS qc (mV 1) (de dm (mV 0)) [ar (.ro (ns.map D.int)),ar (.int k)]=a_ (decide ((k:Int)<(ns.map D.int).length)):=cU (x:=.int k) (y:=.int (ns.map D.int).length) rfl rfl rfl;by_cases h:k<ns.length
 ·refine⟨ns[k],eQ (o:=.ret (.int ns[k])) (lG ((N0 ((bU Z).trans (if_pos (NI (by rw[Nl];omega)))) S).trans (eP (x:=.int ns[k]) (S1:=S) ?_))) rfl⟩;have e:jT (ns.map D.int) (k:Int)=ar (.int ns[k]):=by
   unfold jT xO;simp[h]
  show(match jT (ns.map D.int) k with|some d=>(a_ d:M D)|none=>M.fail) S=_;rw[e];rfl
 ·exact⟨0,eQ (o:=.ret (.int 0)) (N0 ((a7 ((bU Z).trans (if_neg (by rw[NV,Nl];omega)))).trans rfl) S) rfl⟩
theorem Gg{S:az}{ns:List Int}{k:Nat}{Q:D->az->Prop}(X:∀xs,eB (S++[xs]) S.length->Q (.lst S.length) (S++[xs])):runs (iM [.ro (ns.map D.int),.int k]) S Q:=by
 obtain⟨c,U⟩:=Jh (S:=S) (ns:=ns) (k:=k);have W:bC 2 (au eJ (aa (mV 0) (aa (mV 1) ao))) [ar (.ro (ns.map D.int)),ar (.int k),none] S=ar (.ok (.nx [ar (.ro (ns.map D.int)),ar (.int k),ar (.int c)]),S):=bJ (x:=.int c) (by rw[call2 (x:=.ro (ns.map D.int)) (y:=.int k) rfl rfl];exact U);have Y:∀ ρ,aW CQ (mK (.int 10)) (mK (.int 18)) ρ=a_ (.int 1000000000000000000):=λρ=>(cg (x:=.int 10) (y:=.int 18) rfl rfl).trans (if_pos (e:=M.fail) (show Fh 10 18 from⟨by decide,by decide,by decide⟩));have Z:eS Mt (mV 2) (aW CQ (mK (.int 10)) (mK (.int 18))) [ar (.ro (ns.map D.int)),ar (.int k),ar (.int c)]=a_ (decide (1000000000000000000<=c)):=cU (x:=.int c) rfl (Y _) rfl;by_cases h:1000000000000000000<=c
 ·exact⟨_,_,eQ (o:=.ret (.lst S.length)) ((aL W).trans (lG ((N0 ((bU Z).trans (if_pos (NI h))) S).trans (eP (jk (ys:=[.int (c - 1000000000000000000),.bl cn]) (cb (S1:=S) (N0 ((cg (x:=.int c) rfl (Y _)).trans rfl) S) (cb rfl rfl)) sX))))) rfl,X _ ⟨_,cn,cD,by omega,λz=>by cases z⟩⟩
 ·exact⟨_,_,eQ (o:=.ret (.lst S.length)) ((aL W).trans ((aL (N0 ((bU Z).trans (if_neg (by rw[NV];exact h))) S)).trans (eP (jk (ys:=[.int (c % 2147483647),.bl dt]) (cb (kf rfl rfl (by decide)) (cb rfl rfl)) sX)))) rfl,X _ ⟨_,dt,cD,Qh _ (by decide),λ_=>PD _ (by decide)⟩⟩
def pX(n a:Nat):List (List Int):=(n3 (a+1) (n - (a+1))).map λb:Nat=>[(a:Int),(b:Int)]
def gJ(n:Nat):List (List Int):=(d_ n).flatMap (pX n)
structure Kp(k:Nat)(S S':az):Prop where
 len:S.length<=S'.length
 oth:∀i,i<S.length->i≠k->S'[i]? =S[i]?
 st:eB S' k
theorem Kp.trans(a:Kp k S S1)(b:Kp k S1 S2):Kp k S S2:=⟨Nv a.len b.len,λi Z Y=>(b.oth i (NC Z a.len) Y).trans (a.oth i Z Y),b.st⟩
theorem Kp.refl(h:eB S k):Kp k S S:=⟨Nq _,λ_ _ _=>rfl,h⟩
theorem eB.grow(h:eB S k):eB (S++G) k:=by obtain⟨st,b,e,r⟩:=id h;exact⟨st,b,by rw[NZ h.lt];exact e,r⟩
theorem Kp.grow(h:eB S k)(G:az):Kp k S (S++G):=⟨by simp,λi Z _=>NZ Z,h.grow⟩
theorem Ar{Q:D->az->Prop}(hs:eB S k)(U:0<many)(W:many<1073741824)(X:∀j Z,0<=j->j<many->Z.length=S.length->Kp k S Z->Q (.int j) Z):runs (aD [.lst k,.int many]) S Q:=
 Jg hs U W λj Z a b c d e=>X j Z a b c ⟨P8 c.symm,λi _ Y=>d i Y,e⟩
theorem l9:∀ns:List Int,mapP (gw S n) (ns.map D.int)=ar (ns.map pa)
 |[]=>rfl
 |x::r=>by
  show(match gw S n (D.int x),mapP (gw S n) (r.map D.int)with|some p,ar ps=>ar (p::ps)|_,_=>none)=_;rw[iS,l9 r];rfl
theorem D5{ns:List Int}(h:S[k]? =ar (ns.map D.int)):gw S (n+1) (.lst k)=ar (.list (ns.map pa)):=by show((S[k]?).bind λxs=>(mapP (gw S n) xs).map wG)=_;rw[h];show(mapP (gw S n) (ns.map D.int)).map wG=_;rw[l9];rfl
theorem ub{α β:Type}(f:α->β):∀(l:List α) (i:Nat),(l.map f).eraseIdx i=(l.eraseIdx i).map f
 |[],_=>rfl
 |_::_,0=>rfl
 |a::l,i+1=>by simp[ub f l i]
def oY(r:List Int):PyData:=.tuple (r.map pa)
theorem kC(r:List Int):gw S (n+1) (tupI r)=ar (oY r):=by show(mapP (gw S n) (r.map D.int)).map I0=_;rw[l9];rfl
theorem uc:∀rs:List (List Int),mapP (gw S (n+1)) (rs.map tupI)=ar (rs.map oY)
 |[]=>rfl
 |x::r=>by
  show(match gw S (n+1) (tupI x),mapP (gw S (n+1)) (r.map tupI)with|some p,ar ps=>ar (p::ps)|_,_=>none)=_;rw[kC,uc r];rfl
theorem sg(ns:List Int):intsOf (ns.map D.int)=ar ns:=by
 induction ns with
 |nil=>rfl
 |cons x r ih=>simp[intsOf,ih]
theorem sh(Z:List (List Int)):rowsOf (Z.map tupI)=ar Z:=by
 induction Z with
 |nil=>rfl
 |cons x r ih=>
  show(match intsOf (x.map D.int),rowsOf (r.map tupI)with|some ns,ar nss=>ar (ns::nss)|_,_=>none)=_;rw[sg,ih]
structure WebOk(many:Int)(ts:List (List Int)):Prop where
 el:∀t∈ts,∃a b:Int,t=[a,b]/\0<=a/\a<b/\b<many
 ris:ts.Pairwise λa b=>HT.lexLt a b=cn
 few:ts.length<=91
theorem D6:∀t∈gJ n,∃a b:Int,t=[a,b]/\0<=a/\a<b/\b<n:=by intro t X;unfold gJ at X;obtain⟨a,W,Y⟩:=QE.mp X;unfold pX at Y;obtain⟨b,Z,rfl⟩:=NL.mp Y;rw[OP]at Z;rw[NR]at W;exact⟨a,b,rfl,by omega,by omega,by omega⟩
theorem oZ(Z:n<=14):(gJ n).Pairwise (λa b=>HT.lexLt a b=cn)/\(gJ n).length<=91:=by
 have:∀m,m<15->(gJ m).Pairwise (λa b=>HT.lexLt a b=cn)/\(gJ m).length<=91:=by decide+kernel
 exact this n (by omega)
theorem WebOk.of_sub(Y:n<=14){Z:List (List Int)}(h:Z.Sublist (gJ n)):WebOk n Z:=
 ⟨λt X=>D6 t (h.subset X),List.Pairwise.sublist h (oZ Y).1,Nv h.length_le (oZ Y).2⟩
theorem BR{Z:List (List Int)}(h:Z.Pairwise λa b=>HT.lexLt a b=cn):ef Z=Z:=
 lV (cf Z) (dF Z) (h.imp λz=>nS z)
theorem BS:vn (tupI a) (tupI b)=HT.lexLt a b:=by simp only[vn,tupI,sg]
theorem xg:∀{ts:List (List Int)},ts.Pairwise (λa b=>HT.lexLt a b=cn)->vo (ts.map tupI)=cn
 |[],_=>rfl
 |[_],_=>rfl
 |a::b::r,h=>by
  obtain⟨Z,Y⟩:=Of.mp h;show(vn (tupI a) (tupI b) && vo ((b::r).map tupI))=cn;rw[BS,Z b (by simp),xg Y];rfl
theorem Gh(T:0<=many)(Z:many<=14)(w:WebOk many ts):iT (.tup [.int many,.tup (ts.map tupI)])=true:=by
 have:(ts.map tupI).all (kO many)=true:=by rw[QA,N6];intro t X;obtain⟨a,b,rfl,U,Y,W⟩:=w.el t X;simp[tupI,kO,iD,U,Y,W];omega
 simp only[iT,T,Z,this,xg w.ris,decide_true,Sj]
theorem ud:t∈fj l↔t∈l:=by unfold fj;rw[(cf _).mem_iff,jZ]
theorem ue:∀l:List (List Int),(gy l).length<=l.length
 |[]=>Nq _
 |x::r=>by
  unfold gy;have:=ue r;split
  ·simp;omega
  ·simp;omega
theorem gK(l:List (List Int)):(fj l).length<=l.length:=by unfold fj;rw[(cf _).length_eq];exact ue l
theorem BU(l:List (List Int)):(fj l).Pairwise λa b=>HT.lexLt a b=true:=by
 have Y:=dF (gy l);have Z:(fj l).Nodup:=(Pn (cf _)).mpr (nU l);unfold fj at Z⊢;generalize ef (gy l)=s at Y Z
 induction s with
 |nil=>exact .nil
 |cons x r ih=>
  obtain⟨a1,a2⟩:=Of.mp Y;obtain⟨W,U⟩:=Ol.mp Z;refine Of.mpr ⟨λy X=>?_,ih a2 U⟩;cases q:HT.lexLt x y with
  |true=>rfl
  |false=>exact absurd (qj q (a1 y X) ▸ X) W
def Lc:Nat->D->Bool
 |_,.ro _=>dt
 |_,.fn _ _ _ _ _=>dt
 |_,.exc _ _=>dt
 |n+1,.tup ds=>ds.all (Lc n)
 |_,_=>cn
theorem As(h:Lc n d=cn):D1 d:=by cases d<;>first|rfl|(cases n<;>cases h)
theorem Ld(h:Lc (n+1) d=cn):MG d:=⟨As h,λds e x Z=>by subst e;exact As (N6.mp h x Z)⟩
def Le:D->Bool
 | .tup ds=>ds.all λx=>match x with
  | .tup ts=>decide (ts.length<=18)
  |_=>cn
 |_=>cn
structure Good(d:D):Prop where
 nr:LH d
 few:∀m ts,d= .tup [m,.tup ts]->ts.length<=18
theorem Gi(h:Lc 3 d=cn)(X:Le d=cn):Good d:=⟨⟨As h,λds e x U=>by
  subst e;have Z:=N6.mp h x U;refine⟨As Z,λY T t W=>?_⟩;subst T;exact Ld (N6.mp Z t W)⟩,λm Y e=>by
  subst e;have:=N6.mp X (.tup Y) (by simp);simpa using this⟩
def D7(d:D):Bool:=Lc 3 d && Le d
theorem n8(h:D7 d=cn):Good d:=by unfold D7 at h;rw[OA]at h;exact Gi h.1 h.2
theorem G9{xs:List D}{j:Int}(X:0<=j)(Y:j<xs.length):∃d,jT xs j=ar d/\d∈xs:=by
 have Z:j.toNat<xs.length:=by omega
 refine⟨xs[j.toNat],?_,Ot Z⟩;unfold jT xO;simp[X,Y,Z]
section
variable {d:D}
theorem D8(h:LH d)(Y:∀m ts,d= .tup [m,.tup ts]->ts.length<=1000):cS [d]=if iT d=cn then a_ .non else M.raise (.exc "NoWeb" []):=by
 have Z:eA (bV (aQ (au lD (aa (mV 0) ao)))) [ar d]=a_ (!iT d):=by show(bV _ _>>=_)=_;rw[dX (b:=iT d) (kA ((dW rfl).trans (Jf h Y)))];rfl
 cases hw:iT d with
 |true=>exact(vk ((bU Z).trans (by rw[hw];exact if_neg (by decide))) rfl).trans (if_pos rfl).symm
 |false=>exact(j4 ((bU Z).trans (by rw[hw];exact if_pos rfl))).trans (if_neg (by decide)).symm
end
theorem cY(l:List (List Int)):bY 0 (l.map tupI)=true:=by
 have h:∀r:List Int,bY 0 (r.map D.int)=true:=λr=>by
  induction r with
  |nil=>rfl
  |cons x r ih=>rw[NH];unfold bY;rw[ih];unfold fY;rfl
 induction l with
 |nil=>rfl
 |cons x l ih=>rw[NH];unfold bY;rw[ih];unfold tupI fY;rw[h];rfl
abbrev aA(n:Nat)(E:List (List Int)):D:=.tup [.int n,.tup (E.map tupI)]
theorem Ji:LH (aA n E):=by
 refine⟨rfl,?_⟩;intro ds e x Z;cases e;simp only[gc,fc,or_false]at Z;rcases Z with rfl|rfl
 ·exact⟨rfl,λY e=>by cases e⟩
 ·refine⟨rfl,λY e t X=>?_⟩;cases e;obtain⟨r,_,rfl⟩:=NL.mp X;refine⟨rfl,λds e x Z=>?_⟩;cases e;obtain⟨i,_,rfl⟩:=NL.mp Z;exact rfl
theorem Gj{n:Nat}{E:List (List Int)}(w:WebOk n E):∀m Z,aA n E= .tup [m,.tup Z]->Z.length<=1000:=by intro m Z e;cases e;have:=w.few;rw[Nl];omega
theorem same_int:aU (k+1) [.int i,.int i]=a_ (.bl cn):=by refine dj (o:=.ret (.bl cn)) ?_ rfl;show cC _ [ar (.int i),ar (.int i)]=_;unfold cC;rw[a7 (ρ':=[ar (.int i),ar (.int i)]) ((bU (b:=dt) (dX rfl)).trans (if_neg (by decide)))];refine cL ?_;show(aW oE (mV 0) (mV 1) _>>=_)=_;rw[cg (x:=.int i) (y:=.int i) rfl rfl,Ng,aj];rw[show kQ (D.bl cn)=a_ cn from rfl,aj,if_pos rfl,cg (x:=.bl dt) (y:=.bl dt) rfl rfl,MV]
theorem xh{xs:List D}(O:xs.length<=1000)(h:∀x∈xs,aU k [x,x]=a_ (.bl cn)):aU (k+1) [.tup xs,.tup xs]=a_ (.bl cn):=by
 have em:((((xs.zip xs).map λp:D×D=>D.tup [p.1,p.2]).filter λ_=>cn).map λ_=>D.bl cn)=(xs.map λ_=>cn).map D.bl:=by rw[cT,NK,NK];refine List.ext_getElem (by simp) λi R P=>by simp
 have X:=n6 (mi:=pG (mV 0) (mV 1)) (g:=fV 2 (a9 (gN 0) (a9 (gN 1) eE))) (t:=dh (aU k)) (m:=di (aU k)) (js:=[none,none]) (ρ:=[ar (.tup xs),ar (.tup xs)])
  (its:=(xs.zip xs).map λp:D×D=>D.tup [p.1,p.2]) (λρ=>∃x y,ρ=[x,y]) (λ_=>cn) (λ_=>.bl cn) rfl (by rw[Nl,RC];unfold lim;omega) ⟨none,none,rfl⟩
  (λd hd ρ ⟨x,y,hρ⟩=>by subst hρ;obtain⟨z,S,rfl⟩:=xf hd;exact⟨_,rfl,⟨_,_,rfl⟩,rfl,λ_=>kA ((call2 rfl rfl).trans (h z S))⟩) (by rw[em];exact rZ _)
 rw[em]at X;have Z:(xs.map λ_=>cn).all id=true:=by rw[QA];exact N6.mpr λ_ _=>rfl
 have hlen:∀j,j<2->de dm (mV j) [ar (.tup xs),ar (.tup xs)]=a_ (.int xs.length):=λj W=>by
  match j,W with
  |0,_=>rfl
  |1,_=>rfl
 refine dj (o:=.ret (.bl cn)) ?_ rfl;show cC _ [ar (.tup xs),ar (.tup xs)]=_;unfold cC;refine ig ?_;refine(bU (b:=cn) (dX rfl)).trans ?_;rw[if_pos rfl];have Q:∀T,aW mB (iq (mV 0) T) (iq (mV 1) T) [ar (.tup xs),ar (.tup xs)]=a_ (.bl dt):=λT=>(cg (x:=.bl (jm "tuple" T)) (y:=.bl (jm "tuple" T)) rfl rfl).trans MF;have Y:∀T,eS mB (iq (mV 0) T) (iq (mV 1) T) [ar (.tup xs),ar (.tup xs)]=a_ false:=λT=>cU (x:=.bl (jm "tuple" T)) (y:=.bl (jm "tuple" T)) rfl rfl MF;have U:xQ (eS mB (iq (mV 0) "tuple") (iq (mV 1) "tuple")) (eS mB (iq (mV 0) "list") (iq (mV 1) "list")) [ar (.tup xs),ar (.tup xs)]=a_ false:=by show(eS mB _ _ _>>=_)=_;rw[Y "tuple",aj];exact Y "list"
 rw[a7 ((bU U).trans (if_neg (by decide))),a7 ((bU (cU (hlen 0 (by decide)) (hlen 1 (by decide)) MW)).trans (if_neg (by decide)))];refine cL ((jE X).trans (sd.trans ?_));rw[Z]
def si(c:M D)(k:D->M D):M D:=λS=>match c S with
 |some (.ok _,S')=>k .non S'
 |some (.ex (.exc n ds),S')=>if n∈bt then k (.exc n ds) S' else none
 |_=>none
theorem D9{g:Str->Bool}(Z:n∈bt):wK g (.exc n ds)=a_ (.bl (g n)):=if_pos Z
def JV(bs:List Bool):D->Bool
 | .int k=>bs.getD k.toNat dt
 |_=>dt
section
variable {S S':az}{k:Nat}
theorem qt(Z:Kp k S S'):rO S S':=λi xs Y e=>by
 by_cases h:i=k
 ·subst h;obtain⟨st,b,e2,_⟩:=Z.st;rw[e2]at e;cases e;exact .inr rfl
 ·exact .inl (by rw[<-Z.oth i Y h];exact e)
theorem Au(hs:eB S k)(Y:Kp k S S'):Kp k S (S'.take S.length)/\(S'.take S.length).length=S.length:=by
 have W:(S'.take S.length).length=S.length:=by rw[Oz];have:=Y.len;omega
 have X:∀i,i<S.length->(S'.take S.length)[i]? =S'[i]? :=λi Z=>by rw[Qj,if_pos Z]
 refine⟨⟨P8 W.symm,λi Z U=>(X i Z).trans (Y.oth i Z U),?_⟩,W⟩;obtain⟨st,b,e,r⟩:=Y.st;exact⟨st,b,(X k hs.lt).trans e,r⟩
theorem sj{c:M D}(hs:eB S k)(h:c S=ar (.ok d,S'))(Z:Kp k S S')(Y:fY 0 d=cn):∃S1,kK c S=ar (.ok d,S1)/\Kp k S S1/\S1.length=S.length:=
 ⟨_,oQ h (qt Z) (.inr rfl) Z.len (yR d (DQ (NN _) d Y)),Au hs Z⟩
theorem sm:fY 0 (aA n E)=true:=by unfold aA fY bY fY bY fY;rw[cY];rfl
theorem vx(hs:eB S k)(X:0<many)(Y:many<1073741824):∃j S1,kK (aD [.lst k,.int many]) S=ar (.ok (.int j),S1)/\0<=j/\j<many/\Kp k S S1/\S1.length=S.length:=by obtain⟨d,S',e,j,rfl,a,b,Z⟩:=Ar (Q:=λd S'=>∃j,d= .int j/\0<=j/\j<many/\Kp k S S') hs X Y λj S' a b _ Z=>⟨j,rfl,a,b,Z⟩;obtain⟨S1,e1,k1⟩:=sj hs e Z rfl;exact⟨j,S1,e1,a,b,k1⟩
end
theorem o9(h:n<=k)(Z:S[k]? =ar us)(Y:bY 0 us=cn):jI n (xR S n (f+1)) (.lst k)=ar (.fz us):=by unfold jI;rw[if_neg (by omega)];show((S[k]?).bind λxs=>hU n (xR S n f) xs).map D.fz=_;rw[Z,Pu,jv us (lr (NN _) us Y)];rfl
theorem pY{S G:az}(i:Nat):(S++G)[S.length+i]? =G[i]? :=by rw[PV (Pp _ _),Nat.add_sub_cancel_left]
theorem Jj:aQ (bp (aa (mK (.int i)) ao)) ρ=a_ (.fz [.int i]):=e9 (us:=[.int i]) rfl (by show 1<=lim;unfold lim;omega)
section
variable {ρ:aF}{js:List Nat}{ds:List D}{m:TM}{c:M D}{R:M D->List D->M D}{x:D}
end
section
variable {me e:TM}{g:mw}{ρ ρ':aF}{S S1 S2:az}{d:D}{F:List D->M D}{x y:D}
theorem Ea(Z:me ρ S=ar (.ok d,S1))(Y:g d ρ S1=ar (.ok ρ',S2)):pV me g ρ S=ar (.ok (.nx ρ'),S2):=by unfold pV;rw[aI Z,aI Y];rfl
theorem Av{c:M D}(h:c S=ar (.ok d,S)):kK c S=ar (.ok d,S):=by unfold kK;rw[h];exact if_pos (Nq _)
end
section
variable {S S1 S2:az}{k p q:Nat}{e1 e2:TM}{ρ:aF}{x y:D}{f:D->List D->M D}{xs:List D}
theorem mH(Z:e1 ρ=a_ x)(X:Ih x=a_ ())(Y:e2 ρ S=ar (.ok y,S1)):wC f e1 e2 ρ S=f x [y] S1:=by unfold wC;rw[Z,aj,X,aj,aI (a:=[y]) (S1:=S1)];rw[aI Y];rfl
theorem pd(Z:S[p]? =ar xs)(Y:xs.length<=1000):dE (.lst p) [d] S=ar (.ok .non,S.set p (xs++[d])):=by show(getL p>>=λxs=>mx p (xs++[d])) S=_;rw[aI (cH Z)];exact kB (by rw[Nn];show xs.length+1<=lim;unfold lim;omega) (Nt.mp Z).1
theorem pop_at{j:Int}{d:D}(Z:S[p]? =ar xs)(U:xs.length<=1000)(W:0<=j)(X:j<xs.length)(Y:xs[j.toNat]? =ar d):oH (.lst p) [.int j] S=ar (.ok d,S.set p (xs.eraseIdx j.toNat)):=by show(getL p>>=λxs=>if 0<=j/\j<xs.length then (match xs[j.toNat]? with|some y=>(do let _<-mx p (xs.eraseIdx j.toNat);a_ y)|none=>M.fail)else M.fail) S=_;rw[aI (cH Z),if_pos ⟨W,X⟩,Y];show(mx p (xs.eraseIdx j.toNat)>>=λ_=>a_ d) S=_;rw[aI (kB (by have:=List.length_eraseIdx_le xs j.toNat;unfold lim;omega) (Nt.mp Z).1)];rfl
theorem Jk{ns:List Int}(X:S[p]? =ar (ns.map D.int)):mB (.lst p) (.fz []) S=ar (.ok (.bl (!ns.isEmpty)),S):=by
 have Y:gw S 60 (.fz [])=ar (.list []):=rfl;obtain⟨d,Z,e,h⟩:=(lY (f:=λp q=> !f_ p q) (Q:=λd Z=>d= .bl (!ns.isEmpty)/\Z=S) (D5 (n:=59) X) Y).mpr ⟨by
  have:f_ (.list (ns.map pa)) (.list [])=ns.isEmpty:=by cases ns<;>simp[f_,u_]
  rw[this],rfl⟩
 obtain⟨rfl,rfl⟩:=h;exact e
end
theorem Kp.set(Z:Kp k S S')(W:S.length<=p)(U:k<S.length):Kp k S (S'.set p xs):=by
 refine⟨by rw[Qd];exact Z.len,λi X Y=>?_,?_⟩
 ·rw[Ou (by omega)];exact Z.oth i X Y
 ·obtain⟨st,b,e,r⟩:=Z.st;exact⟨st,b,by rw[Ou (by omega)];exact e,r⟩
theorem yY{l:List Int}(h:j<l.length):(l[j]::l.eraseIdx j).Perm l:=by
 induction l generalizing j with
 |nil=>cases h
 |cons x l ih=>
  cases j with
  |zero=>exact .refl _
  |succ j=>exact(List.Perm.swap _ _ _).trans ((ih (by simpa using h)).cons _)
theorem xi{S:az}{k p q:Nat}{a1:Option D}(R:k<S.length)(P:S.length<=p)(O:S.length<=q)(X:p≠q):∀(f:Nat) (ls ms:List Int) (S':az),ls.length<f->ls.length+ms.length<=14->S'[p]? =ar (ls.map D.int)->S'[q]? =ar (ms.map D.int)->Kp k S S'->
  ∃(zs:List Int) (S2:az),lb (eS mB (mV 2) (aQ (bp ao))) dQ f [ar (.lst k),a1,ar (.lst p),ar (.lst q)] S'=ar (.ok (.nx [ar (.lst k),a1,ar (.lst p),ar (.lst q)]),S2)/\S2[q]? =ar (zs.map D.int)/\zs.Perm (ms++ls)/\Kp k S S2
 |0,ls,ms,S',h,_,_,_,_=>by omega
 | f +1,ls,ms,S',hf,hl,g1,g2,kp=>by
  have C:eS mB (mV 2) (aQ (bp ao)) [ar (.lst k),a1,ar (.lst p),ar (.lst q)] S'=ar (.ok (!ls.isEmpty),S'):=by have E:aQ (bp ao) [ar (.lst k),a1,ar (.lst p),ar (.lst q)]=a_ (.fz []):=e9 (us:=[]) rfl (NN _);show((mV 2 _>>=λx=>aQ (bp ao) _>>=λy=>mB x y)>>=kQ) S'=_;rw[E];show(mB (.lst p) (.fz [])>>=kQ) S'=_;rw[aI (Jk g1)];rfl
  rw[lb,aI C];cases ls with
  |nil=>exact⟨ms,S',by rfl,g2,by rw[NT],kp⟩
  | cons l0 ls0=>
   generalize hL:l0::ls0=ls at*;have Q:(!ls.isEmpty)=true:=by rw[<-hL];rfl
   have N:0<ls.length:=by rw[<-hL];exact Nat.succ_pos _
   rw[if_pos Q];obtain⟨j,S1,L,G,A,Y,z⟩:=vx (S:=S') (k:=k) (many:=ls.length) kp.st (by omega) (by omega);have B:=(Nt.mp g1).1;have ql:=(Nt.mp g2).1;have I:=(Y.oth p B (by omega)).trans g1;have F:=(Y.oth q ql (by omega)).trans g2;have U:j.toNat<ls.length:=by omega
   have K:dQ [ar (.lst k),a1,ar (.lst p),ar (.lst q)] S'=ar (.ok (.nx [ar (.lst k),a1,ar (.lst p),ar (.lst q)]),(S1.set p ((ls.eraseIdx j.toNat).map D.int)).set q ((ms++[ls[j.toNat]]).map D.int)):=by
    unfold dQ;have hlen:de dm (mV 2) [ar (.lst k),a1,ar (.lst p),ar (.lst q)] S'=ar (.ok (.int ls.length),S'):=by refine(j5 (x:=.lst p) (S1:=S') rfl).trans ?_;show(getL p>>=λxs=>a_ (D.int xs.length)) S'=_;rw[aI (cH g1),Nl];rfl
    have T:aQ (au aD (aa (mV 0) (aa (de dm (mV 2)) ao))) [ar (.lst k),a1,ar (.lst p),ar (.lst q)] S'=ar (.ok (.int j),S1):=by have J:au aD (aa (mV 0) (aa (de dm (mV 2)) ao)) [ar (.lst k),a1,ar (.lst p),ar (.lst q)] S'=aD [.lst k,.int ls.length] S':=aI (cb (x:=.lst k) rfl (cb hlen rfl));unfold aQ;rw[<-L];unfold kK;rw[J]
    have Z:=(mH (f:=oH) (e1:=mV 2) (ρ:=[ar (.lst k),a1,ar (.lst p),ar (.lst q)]) (x:=.lst p) rfl rfl T).trans (pop_at (d:=.int ls[j.toNat]) I (by rw[Nl];omega) G (by rw[Nl];omega) (by rw[NM,Np U];rfl));rw[ub]at Z;have W:=(mH (f:=dE) (e1:=mV 3) (ρ:=[ar (.lst k),a1,ar (.lst p),ar (.lst q)]) (x:=.lst q) rfl rfl Z).trans (pd (d:=.int ls[j.toNat]) (xs:=ms.map D.int) (by rw[Ou X];exact F) (by rw[Nl];omega));refine mG (x:=.non) (W.trans ?_);rw[NX];rfl
   rw[aI K];have he:=QV U;obtain⟨zs,S2,e2,g3,H,k2⟩:=xi (a1:=a1) R P O X f (ls.eraseIdx j.toNat) (ms++[ls[j.toNat]]) ((S1.set p ((ls.eraseIdx j.toNat).map D.int)).set q ((ms++[ls[j.toNat]]).map D.int)) (by omega) (by rw[Nn];show _+(ms.length+1)<=14;omega)
    (by rw[Ou (k_ X),NO (by omega)]) (by rw[NO (by rw[Qd];omega)]) (((kp.trans Y).set P R).set O R)
   refine⟨zs,S2,e2,g3,H.trans ?_,k2⟩;rw[ND];exact(yY U).append_left ms
theorem MI{j:Int}(h: -(2 ^ 62)<=j/\j<=lim):fN [.int j]=bx (bD 0 j.toNat):=by unfold fN;exact if_pos h
theorem iU(r:List Int):bY 0 (r.map D.int)=true:=by
 induction r with
 |nil=>rfl
 |cons x r ih=>rw[NH];unfold bY;rw[ih];unfold fY;rfl
theorem Jl(r:List Int):fY 0 (tupI r)=true:=by unfold tupI fY;exact iU r
def iV(n:Nat):List Int:=(d_ n).map λi:Nat=>(0:Int)+(i:Int)
theorem xj{S:az}{k n:Nat}(hs:eB S k)(T:n<=14):∃(zs:List Int) (S1:az),kK (cq [.lst k,.int n]) S=ar (.ok (tupI zs),S1)/\zs.Perm (iV n)/\Kp k S S1/\S1.length=S.length:=by
 have X:bD 0 n=(iV n).map D.int:=by unfold bD iV;rw[NK];rfl
 have hlen:(iV n).length=n:=by unfold iV;simp
 obtain⟨zs,S2,e2,g3,Z,k2⟩:=xi (S:=S) (k:=k) (p:=S.length) (q:=S.length+1) (a1:=ar (.int n)) hs.lt (Nq _) (P3 _) (by omega) 64 (iV n) [] (S++[(iV n).map D.int,[]]) (by omega) (by simp;omega) (pY 0) (pY 1) (Kp.grow hs _);have U:(zs.map D.int).length<=lim:=by rw[Nl,Z.length_eq,O5,hlen];unfold lim;omega
 have hm:iO [ar (.lst k),ar (.int n),none,none] S=ar (.ok (.ret (tupI zs)),S2):=by
  unfold iO;have Y:de fN (mV 1) [ar (.lst k),ar (.int n),none,none] S=ar (.ok (.lst S.length),S++[(iV n).map D.int]):=by refine(N0 (jE (f:=fN) (m:=mV 1) (ρ:=[ar (.lst k),ar (.int n),none,none]) (x:=.int n) rfl) S).trans ?_;rw[MI (j:=n) ⟨by omega,by unfold lim;omega⟩,N5,X];exact cM (by rw[Nl,hlen];unfold lim;omega)
  have W:bC 3 (bp ao) [ar (.lst k),ar (.int n),ar (.lst S.length),none] (S++[(iV n).map D.int])=ar (.ok (.nx [ar (.lst k),ar (.int n),ar (.lst S.length),ar (.lst (S.length+1))]),S++[(iV n).map D.int,[]]):=by refine(bJ (cM (S:=S++[(iV n).map D.int]) (us:=[]) (NN _))).trans ?_;rw[ND,Nn];rfl
  refine(aL (bJ Y)).trans ((aL W).trans ((aL e2).trans (eP ((j5 (x:=.lst (S.length+1)) (S1:=S2) rfl).trans ?_))));show(getL (S.length+1)>>=λxs=>bP xs) S2=_;rw[aI (cH g3)];unfold bP;rw[if_pos U];rfl
 obtain⟨S1,e1,k1⟩:=sj (c:=cq [.lst k,.int n]) (d:=tupI zs) hs (eQ (o:=.ret (tupI zs)) hm rfl) k2 (Jl zs);exact⟨zs,S1,e1,by rw[O5]at Z;exact Z,k1⟩
inductive Dr(P:D->D->Prop):List D->List D->Prop
 |nil:Dr P [] []
 |skip {d:D} {ds ys:List D}:Dr P ds ys->Dr P (d::ds) ys
 |put {d y:D} {ds ys:List D}:P d y->Dr P ds ys->Dr P (d::ds) (y::ys)
theorem Dr.len:∀{ds ys:List D},Dr P ds ys->ys.length<=ds.length
 |_,_,.nil=>Nq _
 |_,_,.skip h=>Nat.le_succ_of_le h.len
 |_,_,.put _ h=>P0 h.len
theorem Dr.cl{P:D->D->Prop}(Z:∀d y,P d y->fY 0 y=cn):∀{ds ys:List D},Dr P ds ys->bY 0 ys=cn
 |_,_,.nil=>rfl
 |_,_,.skip h=>h.cl Z
 |_,_,.put p h=>by unfold bY;rw[Z _ _ p,h.cl Z];rfl
theorem ni{g:mw}{t:aF->M Bool}{m:TM}(R:aF->Prop)(P:D->D->Prop):∀(items:List D) (ρ:aF) (S:az),R ρ->eB S k->
  (∀d∈items,∀ ρ S,R ρ->eB S k->∃Z b S1,g d ρ=a_ Z/\R Z/\t Z S=ar (.ok b,S1)/\Kp k S S1/\S1.length=S.length/\(b=cn->∃y S2,m Z S1=ar (.ok y,S2)/\P d y/\Kp k S1 S2/\S2.length=S1.length))->
  ∃ys S2,cF ⟨its,.none⟩ g t m items ρ S=ar (.ok ys,S2)/\Dr P items ys/\Kp k S S2/\S2.length=S.length
 |[],ρ,S,_,hs,_=>⟨[],S,by unfold cF;rw[cQ];rfl,.nil,.refl hs,rfl⟩
 | d::ds,ρ,S,hR,hs,hb=>by
  obtain⟨Z,b,S1,e1,Y,e2,k1,O,L⟩:=hb d (NF ..) ρ S hR hs;cases b with
  |false=>
   obtain⟨ys,S2,T,X,k2,U⟩:=ni (its:=its) R P ds Z S1 Y k1.st λx Q=>hb x (Nx _ Q);refine⟨ys,S2,?_,.skip X,k1.trans k2,U.trans O⟩;unfold cF;rw[cQ,aj,e1,aj,aI e2,if_neg (by decide)];exact T
  |true=>
   obtain⟨y,S2,e3,K,k2,U⟩:=L rfl;obtain⟨ys,W,T,X,k3,N⟩:=ni (its:=its) R P ds Z S2 Y k2.st λx Q=>hb x (Nx _ Q);refine⟨y::ys,W,?_,.put K X,(k1.trans k2).trans k3,N.trans (U.trans O)⟩;unfold cF;rw[cQ,aj,e1,aj,aI e2,if_pos rfl,aI e3,aI T];rfl
theorem BV{mi:aF->M Iter}{g:mw}{t:gz}{m:TM}(R:aF->Prop)(P:D->D->Prop)(Q:mi ρ=a_ ⟨its,.none⟩)(O:its.length<=1000)(X:R (fS js ρ))(hs:eB S k)(W:∀d y,P d y->fY 0 y=cn)
  (U:∀d∈its,∀ ρ S,R ρ->eB S k->∃ ρ1 b S1,g d ρ=a_ ρ1/\R ρ1/\t ρ1 S=ar (.ok b,S1)/\Kp k S S1/\S1.length=S.length/\(b=cn->∃y S2,m ρ1 S1=ar (.ok y,S2)/\P d y/\Kp k S1 S2/\S2.length=S1.length)):
  ∃ys S2,aQ (bj mi g t m js) ρ S=ar (.ok (.fz ys),S2)/\Dr P its ys/\Kp k S S2/\S2.length=S.length:=by
 obtain⟨ys,S2,e,Y,k2,Z⟩:=ni (its:=its) (g:=g) (t:=t) (m:=m) (k:=k) R P its (fS js ρ) S X hs U;have hlen:=Y.len;refine⟨ys,S2,?_,Y,k2,Z⟩;have T:bj mi g t m js ρ S=ar (.ok (.lst S2.length),S2++[ys]):=by unfold bj;rw[Q,aj];unfold eV;rw[if_pos (show its.length<=lim by unfold lim;omega),aI e];exact cM (by unfold lim;omega)
 have:=oQ (u:=.fz ys) T (qt (k2.trans (Kp.grow k2.st [ys]))) (.inl (by rw[Nn,Z];exact Po _)) (by rw[Nn,Z];exact P3 _) (o9 (f:=59) (by omega) cD (Y.cl W));unfold aQ;rw[this, <-Z,RJ]
theorem vy{f:D->D->M D}{e1 e2:TM}(Y:e1 ρ S=ar (.ok x,S1))(Z:e2 ρ S1=ar (.ok y,S2))(h:f x y=a_ (.bl b)):eS f e1 e2 ρ S=ar (.ok b,S2):=by
 have:(e1 ρ>>=λx=>e2 ρ>>=λy=>f x y) S=ar (.ok (.bl b),S2):=by rw[aI Y,aI Z,h];rfl
 exact aI this
theorem Jm{ys:List D}(Z:S[p]? =ar xs)(Y:xs.length+ys.length<=1000):kc (.lst p) [.fz ys] S=ar (.ok .non,S.set p (xs++ys)):=by show(getL p>>=λxs=>mx p (xs++ys)) S=_;rw[aI (cH Z)];exact kB (by rw[Nn];unfold lim;omega) (Nt.mp Z).1
theorem Dr.rows{n:Nat}:∀{l:List Nat} {ys:List D},Dr (λd y=>y= .tup [.int a,d]) (l.map λi:Nat=>D.int ((a:Int)+1+(i:Int))) ys->∃rs:List (List Int),ys=rs.map tupI/\rs.Sublist (l.map λi:Nat=>[(a:Int),(a:Int)+1+(i:Int)])
 |[],_,.nil=>⟨[],rfl,.slnil⟩
 |i::l,_,.skip h=>by
  obtain⟨rs,e,Z⟩:=Dr.rows (n:=n) h;exact⟨rs,e,Z.cons _⟩
 |i::l,_,.put p h=>by
  obtain⟨rs,e,Z⟩:=Dr.rows (n:=n) h;subst p e;exact⟨[(a:Int),(a:Int)+1+(i:Int)]::rs,rfl,Z.cons₂ _⟩
theorem Gk{n a:Nat}:(d_ ((n:Int) - ((a:Int)+1)).toNat).map (λi:Nat=>[(a:Int),(a:Int)+1+(i:Int)])=pX n a:=by
 have e:((n:Int) - ((a:Int)+1)).toNat=n - (a+1):=by omega
 rw[e];unfold pX;rw[Pi,NK];refine O6 λi _=>?_;show[(a:Int),(a:Int)+1+(i:Int)]=[(a:Int),((a+1+i:Nat):Int)];congr 2
theorem Eb{S:az}{k n a:Nat}{o:Int}{x3:Option D}(hs:eB S k)(N:n<=14)(P:a<n):∃(rs:List (List Int)) (S2:az),aQ (bj (Cg (aW cy (mV 4) (mK (.int 1))) (mV 1)) (gN 0) fC fD [none,ar 0,ar 2,ar 4]) [ar (.lst k),ar (.int n),ar (.int o),x3,ar (.int a)] S=ar (.ok (.fz (rs.map tupI)),S2)/\rs.Sublist (pX n a)/\Kp k S S2/\S2.length=S.length:=by
 have T:=(vj (cg (f:=cy) (m:=mV 4) (n:=mK (.int 1)) (ρ:=[ar (.lst k),ar (.int n),ar (.int o),x3,ar (.int a)]) (x:=.int a) (y:=.int 1) rfl rfl) (n:=mV 1) (y:=.int n) rfl).trans (Ge (i:=(a:Int)+1) (j:=n) (by omega));obtain⟨ys,S2,e,W,Z,l⟩:=BV (g:=gN 0) (t:=fC) (m:=fD) (js:=[none,ar 0,ar 2,ar 4]) (k:=k) (λρ=>∃x,ρ=[x,ar (.lst k),ar (.int o),ar (.int a)]) (λd y=>y= .tup [.int a,d]/\∃i:Int,d= .int i) T (by unfold bD;rw[Nl,NS];omega) ⟨none,rfl⟩ hs (λd y ⟨e,i,e2⟩=>by subst e e2;rfl)
  (λd hd ρ S ⟨x,hρ⟩ hs=>by
   subst hρ;obtain⟨i,_,rfl⟩:=NL.mp hd;obtain⟨j,S1,U,Q,O,Z,l⟩:=vx (many:=4) hs (by decide) (by decide);refine⟨_,decide (j<o),S1,rfl,⟨_,rfl⟩,?_,Z,l,λ_=>⟨_,S1,rfl,⟨rfl,_,rfl⟩,.refl Z.st,rfl⟩⟩;have R:aQ (au aD (aa (mV 1) (aa (mK (.int 4)) ao))) [ar (D.int ((a:Int)+1+(i:Int))),ar (.lst k),ar (.int o),ar (.int a)] S=ar (.ok (.int j),S1):=by unfold aQ;rw[call2 (x:=.lst k) (y:=.int 4) rfl rfl];exact U
   exact vy (y:=.int o) R rfl rfl)
 have Y:Dr (λd y=>y= .tup [.int a,d]) ((d_ ((n:Int) - ((a:Int)+1)).toNat).map λi:Nat=>D.int ((a:Int)+1+(i:Int))) ys:=by
  have:∀{ds ys:List D},Dr (λd y=>y= .tup [.int a,d]/\∃i:Int,d= .int i) ds ys->Dr (λd y=>y= .tup [.int a,d]) ds ys:=λ{ds ys} h=>by
   induction h with
   |nil=>exact .nil
   |skip _ ih=>exact .skip ih
   |put p _ ih=>exact .put p.1 ih
  exact this W
 obtain⟨rs,e2,X⟩:=Dr.rows (n:=n) Y;subst e2;rw[Gk]at X;exact⟨rs,S2,e,X,Z,l⟩
theorem uf{S:az}{k n:Nat}{o:Int}{its:List D}(R:k<S.length)(Q:n<=14):∀(post:List Nat) (acc:List (List Int)) (S':az) (x:Option D),(∀a∈post,a<n)->acc.length+post.length*14<=500->S'[S.length]? =ar (acc.map tupI)->Kp k S S'->
  ∃(W:Option D) (rs:List (List Int)) (S2:az),dC ⟨its,.none⟩ (gN 4) dP (post.map λi:Nat=>.int (0+(i:Int))) [ar (.lst k),ar (.int n),ar (.int o),ar (.lst S.length),x] S'=ar (.ok (.nx [ar (.lst k),ar (.int n),ar (.int o),ar (.lst S.length),W]),S2)/\S2[S.length]? =ar ((acc++rs).map tupI)/\rs.Sublist (post.flatMap (pX n))/\Kp k S S2
 |[],acc,S',x,_,_,g,kp=>⟨x,[],S',by rw[Ov,da];rfl,by rw[NT];exact g,.slnil,kp⟩
 | a::post,acc,S',x,ha,hl,g,kp=>by
  have X:=ha a (.head _);obtain⟨rs,S1,e,T,k1,N⟩:=Eb (S:=S') (k:=k) (n:=n) (a:=a) (o:=o) (x3:=ar (.lst S.length)) kp.st (by omega) X;have P:rs.length<=14:=Nv T.length_le (by unfold pX;simp;omega);rw[NU,PL]at hl;have O:=(Nt.mp g).1;have g1:=(k1.oth S.length O (by omega)).trans g;have Y:dP [ar (.lst k),ar (.int n),ar (.int o),ar (.lst S.length),ar (.int a)] S'=ar (.ok (.nx [ar (.lst k),ar (.int n),ar (.int o),ar (.lst S.length),ar (.int a)]),S1.set S.length ((acc++rs).map tupI)):=by unfold dP;refine mG (x:=.non) ((mH (x:=.lst S.length) rfl rfl e).trans ((Jm g1 (by rw[Nl,Nl];omega)).trans ?_));rw[NX]
  obtain⟨W,U,S2,e2,g2,Z,k2⟩:=uf (its:=its) (o:=o) R Q post (acc++rs) (S1.set S.length ((acc++rs).map tupI)) (ar (.int a)) (λb Y=>ha b (.tail _ Y)) (by rw[Nn];omega) (NO (by omega)) ((kp.trans k1).set (Nq _) R);refine⟨W,rs++U,S2,?_,by rw[<-ND];exact g2,by rw[NY];exact T.append Z,k2⟩;rw[NH,Pj];exact(d6 rfl Y).trans e2
theorem Ec{S:az}{k n:Nat}{o:Int}(hs:eB S k)(Z:n<=14):∃(E:List (List Int)) (S1:az),kK (dH [.lst k,.int n,.int o]) S=ar (.ok (aA n E),S1)/\WebOk n E/\Kp k S S1/\S1.length=S.length:=by
 obtain⟨R,rs,S2,e,g,W,T⟩:=uf (S:=S) (k:=k) (n:=n) (o:=o) (its:=bD 0 n) hs.lt Z (d_ n) [] (S++[[]]) none (λa X=>NR.mp X) (by rw[NS];simp;omega) cD (Kp.grow hs _);rw[O5]at g;have w:WebOk n rs:=WebOk.of_sub Z W;have hm:iN [ar (.lst k),ar (.int n),ar (.int o),none,none] S=ar (.ok (.ret (aA n rs)),S2):=by
  unfold iN;have Y:bC 3 (bp ao) [ar (.lst k),ar (.int n),ar (.int o),none,none] S=ar (.ok (.nx [ar (.lst k),ar (.int n),ar (.int o),ar (.lst S.length),none]),S++[[]]):=bJ (cM (S:=S) (us:=[]) (NN _));have U:lX (mV 1) [ar (.lst k),ar (.int n),ar (.int o),ar (.lst S.length),none]=a_ ⟨bD 0 n,.none⟩:=by have:=(oX (m:=mV 1) (ρ:=[ar (.lst k),ar (.int n),ar (.int o),ar (.lst S.length),none]) (x:=.int n) rfl).trans (yV (by omega));rw[N5]at this;exact this
  refine(aL Y).trans ((aL (gI U e)).trans (eP (jM (x:=.int n) rfl ((j5 (x:=.lst S.length) (S1:=S2) rfl).trans ?_))));show(getL S.length>>=λxs=>bP xs) S2=_;rw[aI (cH g)];unfold bP;rw[if_pos (by rw[Nl];have:=w.few;unfold lim;omega)];rfl
 obtain⟨S1,e1,k1⟩:=sj (c:=dH [.lst k,.int n,.int o]) (d:=aA n rs) hs (eQ (o:=.ret (aA n rs)) hm rfl) T sm;exact⟨rs,S1,e1,w,k1⟩
def gL(p:Int)(t:List Int):Bool:=t.any (· ==p)
theorem qu(p:Int):∀t:List Int,((t.map pa).any λy=>f_ y (.int p))=gL p t
 |[]=>rfl
 |x::r=>by
  rw[NH,Rq,qu p r];unfold gL;rw[Rq];congr 1
theorem Aw:inD (.int p) (tupI t)=a_ (.bl (gL p t)):=cO λS=>by unfold inD;exact(qm iS (kC t) (r:=gL p t) (by show ar (id ((t.map pa).any λy=>f_ y (.int p)))=_;rw[qu];rfl)).mpr ⟨rfl,rfl⟩
theorem Ed{E:List (List Int)}(h:a<E.length):bE (.tup (E.map tupI)) (.int a)=a_ (tupI (E.getD a [])):=by
 show(match jT (E.map tupI) a with|some d=>(a_ d:M D)|none=>M.fail)=_;have:jT (E.map tupI) (a:Int)=ar (tupI (E.getD a [])):=by
  unfold jT xO;rw[Nl];have Z:¬ ((a:Int)<0):=by omega
  have Y:(a:Int)<E.length:=by omega
  simp[Z,Y,h]
 rw[this]
theorem getD_in{E:List (List Int)}(h:a<E.length):E.getD a []∈E:=by rw[Ny,Np h];exact Ot h
theorem or_eq{p q:gz}(Z:p ρ=a_ b)(Y:q ρ=a_ c):xQ p q ρ=a_ (b||c):=by
 show(p ρ>>=_)=_;rw[Z];cases b with
 |true=>rfl
 |false=>exact Y
section
variable {S:az}{k n:Nat}{E:List (List Int)}{its:List D}
theorem Gm(W:∀t∈E,∃x y:Int,t=[x,y])(X:a<E.length)(U:b<E.length):∃c,xQ (eS inD (aW bE (aW bE (mV 1) (mV 3)) (mK (.int 0))) (aW bE (mV 1) (mV 4))) (eS inD (aW bE (aW bE (mV 1) (mV 3)) (mK (.int 1))) (aW bE (mV 1) (mV 4))) [ar (aA n E),ar (.tup (E.map tupI)),ar (.lst p),ar (.int a),ar (.int b)]=a_ c:=by
 obtain⟨x,y,e⟩:=W _ (getD_in X);have Z:aW bE (mV 1) (mV 3) [ar (aA n E),ar (.tup (E.map tupI)),ar (.lst p),ar (.int a),ar (.int b)]=a_ (tupI [x,y]):=by rw[<-e];exact(cg (x:=.tup (E.map tupI)) (y:=.int a) rfl rfl).trans (Ed X)
 have Y:aW bE (mV 1) (mV 4) [ar (aA n E),ar (.tup (E.map tupI)),ar (.lst p),ar (.int a),ar (.int b)]=a_ (tupI (E.getD b [])):=(cg (x:=.tup (E.map tupI)) (y:=.int b) rfl rfl).trans (Ed U);have h0:aW bE (aW bE (mV 1) (mV 3)) (mK (.int 0)) [ar (aA n E),ar (.tup (E.map tupI)),ar (.lst p),ar (.int a),ar (.int b)]=a_ (.int x):=(cg (y:=.int 0) Z rfl).trans rfl;have T:aW bE (aW bE (mV 1) (mV 3)) (mK (.int 1)) [ar (aA n E),ar (.tup (E.map tupI)),ar (.lst p),ar (.int a),ar (.int b)]=a_ (.int y):=(cg (y:=.int 1) Z rfl).trans rfl;exact⟨_,or_eq (cU h0 Y Aw) (cU T Y Aw)⟩
theorem vz(R:k<S.length)(T:∀t∈E,∃x y:Int,t=[x,y])(W:a<E.length):∀(post:List Nat) (acc:List (List Int)) (S':az) (x:Option D),(∀b∈post,b<E.length)->acc.length+post.length<=500->S'[S.length]? =ar (acc.map tupI)->Kp k S S'->
  ∃(Y:Option D) (rs:List (List Int)) (S2:az),dC ⟨its,.none⟩ (gN 4) eL (post.map λb:Nat=>.int (b:Int)) [ar (aA n E),ar (.tup (E.map tupI)),ar (.lst S.length),ar (.int a),x] S'=ar (.ok (.nx [ar (aA n E),ar (.tup (E.map tupI)),ar (.lst S.length),ar (.int a),Y]),S2)/\S2[S.length]? =ar ((acc++rs).map tupI)/\rs.Sublist (post.map λb:Nat=>[(a:Int),(b:Int)])/\Kp k S S2
 |[],acc,S',x,_,_,g,kp=>⟨x,[],S',by rw[Ov,da];rfl,by rw[NT];exact g,.slnil,kp⟩
 | b::post,acc,S',x,hb,hl,g,kp=>by
  rw[NU]at hl;obtain⟨c,Z⟩:=Gm (n:=n) (p:=S.length) T W (hb b (.head _));have Q:=(Nt.mp g).1;cases c with
  |false=>
   have X:eL [ar (aA n E),ar (.tup (E.map tupI)),ar (.lst S.length),ar (.int a),ar (.int b)] S'=ar (.ok (.nx [ar (aA n E),ar (.tup (E.map tupI)),ar (.lst S.length),ar (.int a),ar (.int b)]),S'):=N0 ((bU Z).trans (if_neg (by decide))) S';obtain⟨Y,rs,S2,e,g2,U,k2⟩:=vz R T W post acc S' (ar (.int b)) (λc Z=>hb c (.tail _ Z)) (by omega) g kp;exact⟨Y,rs,S2,(d6 rfl X).trans e,g2,U.cons _,k2⟩
  | true=>
   have X:eL [ar (aA n E),ar (.tup (E.map tupI)),ar (.lst S.length),ar (.int a),ar (.int b)] S'=ar (.ok (.nx [ar (aA n E),ar (.tup (E.map tupI)),ar (.lst S.length),ar (.int a),ar (.int b)]),S'.set S.length ((acc++[[(a:Int),(b:Int)]]).map tupI)):=by refine(N0 ((bU Z).trans (if_pos rfl)) S').trans (mG (x:=.non) ((mH (x:=.lst S.length) (y:=.tup [.int a,.int b]) (S1:=S') rfl rfl (jM rfl rfl)).trans ((pd g (by rw[Nl];omega)).trans ?_)));rw[NX];rfl
   obtain⟨Y,rs,S2,e,g2,U,k2⟩:=vz R T W post (acc++[[(a:Int),(b:Int)]]) (S'.set S.length ((acc++[[(a:Int),(b:Int)]]).map tupI)) (ar (.int b)) (λc Z=>hb c (.tail _ Z)) (by rw[Nn];show acc.length+1+post.length<=500;omega) (NO Q) (kp.set (Nq _) R);exact⟨Y,[(a:Int),(b:Int)]::rs,S2,(d6 rfl X).trans e,by rw[ND]at g2;exact g2,U.cons₂ _,k2⟩
theorem xk(O:k<S.length)(J:E.length<=9)(P:∀t∈E,∃x y:Int,t=[x,y]):∀(post:List Nat) (acc:List (List Int)) (S':az) (x y:Option D),(∀b∈post,b<E.length)->acc.length+post.length*9<=100->S'[S.length]? =ar (acc.map tupI)->Kp k S S'->
  ∃(U W:Option D) (rs:List (List Int)) (S2:az),dC ⟨its,.none⟩ (gN 3) jd (post.map λi:Nat=>.int (0+(i:Int))) [ar (aA n E),ar (.tup (E.map tupI)),ar (.lst S.length),x,y] S'=ar (.ok (.nx [ar (aA n E),ar (.tup (E.map tupI)),ar (.lst S.length),U,W]),S2)/\S2[S.length]? =ar ((acc++rs).map tupI)/\rs.Sublist (post.flatMap (pX E.length))/\Kp k S S2
 |[],acc,S',x,y,_,_,g,kp=>⟨x,y,[],S',by rw[Ov,da];rfl,by rw[NT];exact g,.slnil,kp⟩
 | a::post,acc,S',x,y,ha,hl,g,kp=>by
  rw[NU,PL]at hl;have Y:=ha a (.head _);have hlen:de dm (mV 1) [ar (aA n E),ar (.tup (E.map tupI)),ar (.lst S.length),ar (.int a),y]=a_ (.int E.length):=by refine(jE (x:=.tup (E.map tupI)) rfl).trans ?_;show a_ (D.int (E.map tupI).length)=_;rw[Nl]
  have Q:=(vj (cg (f:=cy) (m:=mV 3) (n:=mK (.int 1)) (ρ:=[ar (aA n E),ar (.tup (E.map tupI)),ar (.lst S.length),ar (.int a),y]) (x:=.int a) (y:=.int 1) rfl rfl) hlen).trans (Ge (i:=(a:Int)+1) (j:=E.length) (by omega));have K:bD ((a:Int)+1) ((E.length:Int) - ((a:Int)+1)).toNat=(n3 (a+1) (E.length - (a+1))).map λb:Nat=>.int (b:Int):=by
   have e:((E.length:Int) - ((a:Int)+1)).toNat=E.length - (a+1):=by omega
   rw[e];unfold bD;rw[Pi,NK];refine O6 λi _=>?_;show D.int ((a:Int)+1+(i:Int))= .int ((a+1+i:Nat):Int);congr 1
  rw[K]at Q;obtain⟨N,rs,S1,e1,g1,R,k1⟩:=vz (S:=S) (k:=k) (n:=n) (its:=(n3 (a+1) (E.length - (a+1))).map λb:Nat=>.int (b:Int)) O P Y (n3 (a+1) (E.length - (a+1))) acc S' y (λb X=>by have:=OP.mp X;omega) (by rw[PF];omega) g kp;have L:rs.length<=9:=Nv R.length_le (by rw[Nl,PF];omega);obtain⟨U,W,T,S2,e2,g2,Z,k2⟩:=xk O J P post (acc++rs) S1 (ar (.int a)) N (λb X=>ha b (.tail _ X)) (by rw[Nn];omega) g1 k1;refine⟨U,W,rs++T,S2,?_,by rw[<-ND];exact g2,by rw[NY];exact R.append Z,k2⟩;rw[NH,Pj];exact(d6 rfl (gI Q e1)).trans e2
theorem Gn{m:Nat}(h:m<=9):((d_ m).flatMap (pX m)).length<=36:=by
 have:∀m,m<10->((d_ m).flatMap (pX m)).length<=36:=by decide+kernel
 exact this m (by omega)
theorem Ee(hs:eB S k)(Y:E.length<=9)(R:∀t∈E,∃x y:Int,t=[x,y]):∃(T:List (List Int)) (S1:az),ia [aA n E] S=ar (.ok (aA E.length T),S1)/\WebOk E.length T/\T.length<=36/\Kp k S S1:=by
 obtain⟨O,P,rs,S2,e,g,Z,Q⟩:=xk (S:=S) (k:=k) (n:=n) (its:=bD 0 E.length) hs.lt Y R (d_ E.length) [] (S++[[]]) none none (λa W=>NR.mp W) (by rw[NS];simp;omega) cD (Kp.grow hs _);rw[O5]at g;have w:WebOk E.length rs:=WebOk.of_sub (by omega) Z;have hlen:∀{x y z:Option D},de dm (mV 1) [ar (aA n E),ar (.tup (E.map tupI)),x,y,z]=a_ (.int E.length):=λ{x y z}=>by refine(jE (x:=.tup (E.map tupI)) rfl).trans ?_;show a_ (D.int (E.map tupI).length)=_;rw[Nl]
 have hm:jw [ar (aA n E),none,none,none,none] S=ar (.ok (.ret (aA E.length rs)),S2):=by
  unfold jw;have h0:bC 1 (aW bE (mV 0) (mK (.int 1))) [ar (aA n E),none,none,none,none] S=ar (.ok (.nx [ar (aA n E),ar (.tup (E.map tupI)),none,none,none]),S):=bJ rfl;have X:bC 2 (bp ao) [ar (aA n E),ar (.tup (E.map tupI)),none,none,none] S=ar (.ok (.nx [ar (aA n E),ar (.tup (E.map tupI)),ar (.lst S.length),none,none]),S++[[]]):=bJ (cM (S:=S) (us:=[]) (NN _));have U:lX (de dm (mV 1)) [ar (aA n E),ar (.tup (E.map tupI)),ar (.lst S.length),none,none]=a_ ⟨bD 0 E.length,.none⟩:=by have:=(oX hlen (ρ:=[ar (aA n E),ar (.tup (E.map tupI)),ar (.lst S.length),none,none])).trans (yV (by omega));rw[N5]at this;exact this
  refine(aL h0).trans ((aL X).trans ((aL (gI U e)).trans (eP (jM (x:=.int E.length) (S1:=S2) (by rw[hlen];rfl) ((j5 (x:=.lst S.length) (S1:=S2) rfl).trans ?_)))));show(getL S.length>>=λxs=>bP xs) S2=_;rw[aI (cH g)];unfold bP;rw[if_pos (by rw[Nl];have:=w.few;unfold lim;omega)];rfl
 exact⟨rs,S2,eQ (o:=.ret (aA E.length rs)) hm rfl,w,Nv Z.length_le (Gn Y),Q⟩
end
theorem Jn{l:List (List Int)}(h:l.Nodup):(ef l).Pairwise λa b=>HT.lexLt a b=true:=by
 have Y:=dF l;have Z:(ef l).Nodup:=(Pn (cf _)).mpr h;generalize ef l=s at Y Z
 induction s with
 |nil=>exact .nil
 |cons x r ih=>
  obtain⟨a1,a2⟩:=Of.mp Y;obtain⟨W,U⟩:=Ol.mp Z;refine Of.mpr ⟨λy X=>?_,ih a2 U⟩;cases q:HT.lexLt x y with
  |true=>rfl
  |false=>exact absurd (qj q (a1 y X) ▸ X) W
theorem ug(Y:∀r∈nss,r.length=2)(Z:nss.length<64):rH (nss.map tupI)=bx ((ef nss).map tupI):=by
 cases nss with
 |nil=>rfl
 |cons r nss=>
  have W:two (r::nss)=true:=N6.mpr λx X=>by rw[Y x X];rfl
  show(match rowsOf ((r::nss).map tupI)with|some nss=>wB nss|none=>M.fail)=_;rw[sh];exact if_pos ⟨Z,W⟩
theorem pe{c:M D}{S2:az}(h:c S=ar (.ok (.lst S2.length),S2++[us]))(Z:Kp k S S2)(l:S2.length=S.length)(Y:bY 0 us=cn):kK c S=ar (.ok (.fz us),S2):=by have:=oQ (u:=.fz us) h (qt (Z.trans (Kp.grow Z.st [us]))) (.inl (by rw[Nn,l];exact Po _)) (by rw[Nn,l];exact P3 _) (o9 (f:=59) (by omega) cD Y);rw[this, <-l,RJ]
theorem uh{Z:List (List Int)}(hs:eB S k)(W:S[p]? =ar (Z.map tupI))(X:∀r∈Z,r.length=2)(Y:Z.length<64):kK (cm [.lst p]) S=ar (.ok (.fz ((ef Z).map tupI)),S):=by refine pe ?_ (Kp.refl hs) rfl (cY _);show(getL p>>=λxs=>rH xs) S=_;rw[aI (cH W),ug X Y];exact cM (by rw[Nl,(cf Z).length_eq];unfold lim;omega)
def Ef(zs:List Int):List Int->List Int
 |[a,b]=>[if zs.getD b.toNat 0<zs.getD a.toNat 0 then zs.getD b.toNat 0 else zs.getD a.toNat 0,if zs.getD b.toNat 0>zs.getD a.toNat 0 then zs.getD b.toNat 0 else zs.getD a.toNat 0]
 |t=>t
theorem qv{zs:List Int}{a:Int}(Y:0<=a)(h:a<zs.length):bE (tupI zs) (.int a)=a_ (.int (zs.getD a.toNat 0)):=by
 show(match jT (zs.map D.int) a with|some d=>(a_ d:M D)|none=>M.fail)=_;have:jT (zs.map D.int) a=ar (.int (zs.getD a.toNat 0)):=by
  unfold jT xO;rw[Nl];have X:¬ (a<0):=by omega
  have Z:a.toNat<zs.length:=by omega
  simp[Y,h,Z]
 rw[this]
theorem ui{S:az}{k n:Nat}{zs:List Int}{w0:Option D}{its:List D}(R:k<S.length)(Q:zs.length=n):∀(post acc:List (List Int)) (S':az) (x y:Option D),(∀t∈post,∃a b:Int,t=[a,b]/\0<=a/\a<n/\0<=b/\b<n)->acc.length+post.length<=500->S'[S.length]? =ar (acc.map tupI)->Kp k S S'->
  ∃(W X:Option D) (S2:az),dC ⟨its,.none⟩ (fV 2 (a9 (gN 3) (a9 (gN 4) eE))) dO (post.map tupI) [w0,ar (tupI zs),ar (.lst S.length),x,y] S'=ar (.ok (.nx [w0,ar (tupI zs),ar (.lst S.length),W,X]),S2)/\S2[S.length]? =ar ((acc++post.map (Ef zs)).map tupI)/\Kp k S S2
 |[],acc,S',x,y,_,_,g,kp=>⟨x,y,S',by rw[Ov,da];rfl,by rw[Ov,NT];exact g,kp⟩
 | t::post,acc,S',x,y,ht,hl,g,kp=>by
  rw[NU]at hl;obtain⟨a,b,rfl,a0,a1,L,K⟩:=ht t (.head _);have N:=(Nt.mp g).1;have T:aW bE (mV 1) (mV 3) [w0,ar (tupI zs),ar (.lst S.length),ar (.int a),ar (.int b)]=a_ (.int (zs.getD a.toNat 0)):=(cg (x:=tupI zs) (y:=.int a) rfl rfl).trans (qv a0 (by omega));have U:aW bE (mV 1) (mV 4) [w0,ar (tupI zs),ar (.lst S.length),ar (.int a),ar (.int b)]=a_ (.int (zs.getD b.toNat 0)):=(cg (x:=tupI zs) (y:=.int b) rfl rfl).trans (qv L (by omega));have Z:=(call2 (F:=minD) T U).trans rfl;have Y:=(call2 (F:=maxD) T U).trans rfl;have P:dO [w0,ar (tupI zs),ar (.lst S.length),ar (.int a),ar (.int b)] S'=ar (.ok (.nx [w0,ar (tupI zs),ar (.lst S.length),ar (.int a),ar (.int b)]),S'.set S.length ((acc++[Ef zs [a,b]]).map tupI)):=by unfold dO;refine mG (x:=.non) ((mH (x:=.lst S.length) (y:=tupI (Ef zs [a,b])) (S1:=S') rfl rfl (jM (N0 Z S') (N0 Y S'))).trans ((pd g (by rw[Nl];omega)).trans ?_));rw[NX];rfl
  obtain⟨W,X,S2,e,g2,k2⟩:=ui (its:=its) (w0:=w0) R Q post (acc++[Ef zs [a,b]]) (S'.set S.length ((acc++[Ef zs [a,b]]).map tupI)) (ar (.int a)) (ar (.int b)) (λu O=>ht u (.tail _ O)) (by rw[Nn];show acc.length+1+post.length<=500;omega) (NO N) (kp.set (Nq _) R);exact⟨W,X,S2,(d6 rfl P).trans e,by rw[NH, <-List.singleton_append, <-ND];exact g2,k2⟩
section
variable {n:Nat}{zs:List Int}{E:List (List Int)}
theorem qw(Z:zs.Perm (iV n))(X:i<n):0<=zs.getD i 0/\zs.getD i 0<n:=by
 have W:zs.length=n:=by rw[Z.length_eq];unfold iV;simp
 have:zs.getD i 0∈iV n:=by rw[<-Z.mem_iff,Ny,Np (by omega)];exact Ot _
 unfold iV at this;obtain⟨j,Y,e⟩:=NL.mp this;have:=NR.mp Y;omega
theorem Gp(Z:zs.Perm (iV n)):zs.Nodup:=by rw[Z.nodup_iff];unfold iV;exact List.Pairwise.map _ (λa b h e=>h (by have e2:(0:Int)+(a:Int)=0+(b:Int):=e;omega)) (List.nodup_range (n:=n))
theorem ij(Z:zs.Perm (iV n))(X:i<n)(Y:j<n)(h:zs.getD i 0=zs.getD j 0):i=j:=by
 have W:zs.length=n:=by rw[Z.length_eq];unfold iV;simp
 rw[Ny,Ny,Np (by omega),Np (by omega)]at h;exact(List.getElem_inj (Gp Z)).mp h
theorem Lf(Z:zs.Perm (iV n))(w:WebOk n E):(E.map (Ef zs)).Nodup/\∀t∈E.map (Ef zs),∃a b:Int,t=[a,b]/\0<=a/\a<b/\b<n:=by
 constructor
 ·have R:E.Nodup:=w.ris.imp λ{a b} h e=>by subst e;rw[kd]at h;cases h
  refine List.pairwise_map.mpr (List.Pairwise.imp_of_mem (λ{s t} hs X hne e=>hne ?_) R);obtain⟨a,b,rfl,a0,ab,bn⟩:=w.el s hs;obtain⟨c,d,rfl,Q,cd,L⟩:=w.el t X;have e1:=List.cons.inj e;have e2:=List.cons.inj e1.2;have U:=e1.1;have Y:=e2.1;have k1:zs.getD a.toNat 0≠zs.getD b.toNat 0:=λz=>by have:=ij Z (i:=a.toNat) (j:=b.toNat) (by omega) (by omega) z;omega
  have k2:zs.getD c.toNat 0≠zs.getD d.toNat 0:=λz=>by have:=ij Z (i:=c.toNat) (j:=d.toNat) (by omega) (by omega) z;omega
  have ac:=λz=>ij Z (i:=a.toNat) (j:=c.toNat) (by omega) (by omega) z;have bd:=λz=>ij Z (i:=b.toNat) (j:=d.toNat) (by omega) (by omega) z;have ad:=λz=>ij Z (i:=a.toNat) (j:=d.toNat) (by omega) (by omega) z;have T:=λz=>ij Z (i:=b.toNat) (j:=c.toNat) (by omega) (by omega) z;generalize zs.getD a.toNat 0=x at*;generalize zs.getD b.toNat 0=y at*;generalize zs.getD c.toNat 0=u at*;generalize zs.getD d.toNat 0=v at*;have key:(x=u/\y=v)\/(x=v/\y=u):=by by_cases W:y<x<;>by_cases q2:v<u<;>simp only[W,q2,if_true,if_false]at U Y<;>(split at Y<;>split at Y<;>omega)
  rcases key with⟨z1,z2⟩|⟨z1,z2⟩
  ·have:=ac z1;have:=bd z2;have e3:a=c:=by omega
   have S:b=d:=by omega
   rw[e3,S]
  ·have:=ad z1;have:=T z2;omega
 ·intro t X;obtain⟨s,hs,rfl⟩:=NL.mp X;obtain⟨a,b,rfl,a0,ab,bn⟩:=w.el s hs;have k1:zs.getD a.toNat 0≠zs.getD b.toNat 0:=λz=>by have:=ij Z (i:=a.toNat) (j:=b.toNat) (by omega) (by omega) z;omega
  obtain⟨N,O⟩:=qw Z (i:=a.toNat) (by omega);obtain⟨P,W⟩:=qw Z (i:=b.toNat) (by omega);refine⟨_,_,rfl,?_,?_,?_⟩<;>(generalize zs.getD a.toNat 0=x at*;generalize zs.getD b.toNat 0=y at*;split<;>(try split)<;>omega)
theorem WebOk.sort{T:List (List Int)}(h:T.Nodup)(Z:∀t∈T,∃a b:Int,t=[a,b]/\0<=a/\a<b/\b<m)(X:T.length<=91):WebOk m (ef T):=
 ⟨λt Y=>Z t ((cf T).mem_iff.mp Y),Jn h,by rw[(cf T).length_eq];exact X⟩
theorem BW(hs:eB S k)(U:zs.Perm (iV n))(w:WebOk n E)(J:E.length<=36):∃(T:List (List Int)) (S1:az),fZ [aA n E,tupI zs] S=ar (.ok (aA n T),S1)/\WebOk n T/\T.length=E.length/\Kp k S S1:=by
 have I:zs.length=n:=by rw[U.length_eq];unfold iV;simp
 have hf:=w.few;obtain⟨Q,R,S2,e,g,P⟩:=ui (S:=S) (k:=k) (n:=n) (zs:=zs) (w0:=ar (aA n E)) (its:=E.map tupI) hs.lt I E [] (S++[[]]) none none (λt K=>by obtain⟨a,b,e,Y,H,Z⟩:=w.el t K;exact⟨a,b,e,Y,by omega,by omega,Z⟩) (by simp;omega) cD (Kp.grow hs _)
 rw[O5]at g;obtain⟨O,W⟩:=Lf U w;have wT:WebOk n (ef (E.map (Ef zs))):=WebOk.sort O W (by rw[Nl];exact hf);have X:=uh P.st g (λr L=>by obtain⟨a,b,e,_⟩:=W r L;rw[e];rfl) (by rw[Nl];omega);have hm:iL [ar (aA n E),ar (tupI zs),none,none,none] S=ar (.ok (.ret (aA n (ef (E.map (Ef zs))))),S2):=by
  unfold iL;have Y:bC 2 (bp ao) [ar (aA n E),ar (tupI zs),none,none,none] S=ar (.ok (.nx [ar (aA n E),ar (tupI zs),ar (.lst S.length),none,none]),S++[[]]):=bJ (cM (S:=S) (us:=[]) (NN _));have N:bX (aW bE (mV 0) (mK (.int 1))) [ar (aA n E),ar (tupI zs),ar (.lst S.length),none,none]=a_ ⟨E.map tupI,.none⟩:=rfl;have Z:aQ (de cm (mV 2)) [ar (aA n E),ar (tupI zs),ar (.lst S.length),Q,R] S2=ar (.ok (.fz ((ef (E.map (Ef zs))).map tupI)),S2):=by unfold aQ;rw[jE (f:=cm) (m:=mV 2) (ρ:=[ar (aA n E),ar (tupI zs),ar (.lst S.length),Q,R]) (x:=.lst S.length) rfl];exact X
  refine(aL Y).trans ((aL (gI N e)).trans (eP (jM (x:=.int n) (S1:=S2) rfl ((j5 Z).trans ?_))));rw[yW (by rw[Nl];have:=wT.few;unfold lim;omega)];rfl
 exact⟨_,S2,eQ (o:=.ret (aA n (ef (E.map (Ef zs))))) hm rfl,wT,by rw[(cf _).length_eq,Nl],P⟩
end
theorem Jo{Z:aF->M (List D)}(h:Z ρ S=ar (.ok [d1,d2],S1)):IF i j Z ρ S=ar (.ok (.nx ((ρ.set i (ar d1)).set j (ar d2))),S1):=by unfold IF;rw[aI h];rfl
theorem oa{e1 e2:TM}(hs:eB S k)(Y:e1 ρ=a_ (.lst k))(Z:e2 ρ=a_ (.int m))(X:0<m)(W:m<1000):∃j S1,aQ (au aD (aa e1 (aa e2 ao))) ρ S=ar (.ok (.int j),S1)/\0<=j/\j<m/\Kp k S S1/\S1.length=S.length:=by obtain⟨j,S1,e,r⟩:=vx (many:=m) hs X (by omega);refine⟨j,S1,?_,r⟩;unfold aQ;rw[call2 Y Z];exact e
theorem xm{e:TM}(hs:eB S k)(W:∀S,eB S k->∃j S1,e ρ S=ar (.ok (.int j),S1)/\0<=j/\j<m/\Kp k S S1/\S1.length=S.length):
  ∃a b S1,aQ (de cm (aQ (bp (aa e (aa e ao))))) ρ S=ar (.ok (.fz [.int a,.int b]),S1)/\(0<=a/\a<m)/\(0<=b/\b<m)/\Kp k S S1/\S1.length=S.length:=by
 obtain⟨i,S1,e1,N,K,k1,Q⟩:=W S hs;obtain⟨j,S2,e2,O,L,k2,P⟩:=W S1 k1.st;have Y:=k1.trans k2;have Z:=P.trans Q;have T:aQ (bp (aa e (aa e ao))) ρ S=ar (.ok (.fz [.int i,.int j]),S2):=pe (jk (ys:=[.int i,.int j]) (cb e1 (cb e2 rfl)) sX) Y Z rfl;have X:=sortI_perm [i,j];have hlen:(sortI [i,j]).length=2:=X.length_eq
 match hq:sortI [i,j],hlen with
 |[a,b],_=>
  rw[hq]at X;have R:a=i\/a=j:=by simpa using X.mem_iff.mp (NF ..)
  have U:b=i\/b=j:=by simpa using X.mem_iff.mp (Nx _ (NF ..))
  refine⟨a,b,S2,?_,by rcases R with rfl|rfl<;>exact⟨by assumption,by assumption⟩,by rcases U with rfl|rfl<;>exact⟨by assumption,by assumption⟩,Y,Z⟩;refine pe ((j5 T).trans ?_) Y Z rfl;have:cm [.fz [.int i,.int j]]=bx ((sortI [i,j]).map D.int):=rfl;rw[this,hq];exact cM sX
def mI(n:Nat)(T:List (List Int)):Prop:=∀t∈T,∃a b:Int,t=[a,b]/\0<=a/\a<b/\b<n
theorem mI.snoc{n:Nat}{T:List (List Int)}{a b:Int}(h:mI n T)(W:0<=a)(X:a<b)(Z:b<n):mI n (T++[[a,b]]):=λt Y=>by
 rcases Oj.mp Y with h'|h'
 ·exact h t h'
 ·exact⟨a,b,by simpa using h',W,X,Z⟩
section
variable {B:az}{k n:Nat}{zs:List Int}{its:List D}
abbrev gj(B:az)(gm k n:Nat)(zs:List Int)(r:List (Option D)):aF:=ar (.lst k)::ar (.int (gm:Int))::ar (.int n)::ar (tupI zs)::ar (.lst B.length)::r
theorem Jp{gm:Nat}(Q:k<B.length)(N:n<=7)(W:zs.Perm (iV n)):∀(post:List Nat) (acc:List (List Int)) (S':az) (x5 x6 x7 x8 x9 x10:Option D),(∀a∈post,1<=a/\a<n)->acc.length+post.length<=100->mI n acc->S'[B.length]? =ar (acc.map tupI)->Kp k B S'->
  ∃(T U S:Option D) (Z:List (List Int)) (S2:az),dC ⟨its,.none⟩ (gN 5) bN (post.map λb:Nat=>.int (b:Int)) (gj B gm k n zs [x5,x6,x7,x8,x9,x10]) S'=ar (.ok (.nx (gj B gm k n zs [T,U,S,x8,x9,x10])),S2)/\S2[B.length]? =ar (Z.map tupI)/\mI n Z/\Z.length<=acc.length+post.length/\Kp k B S2
 |[],acc,S',x5,x6,x7,x8,x9,x10,_,_,gt,g,kp=>⟨x5,x6,x7,acc,S',by rw[Ov,da];rfl,g,gt,Nq _,kp⟩
 | a::post,acc,S',x5,x6,x7,x8,x9,x10,ha,hl,gt,g,kp=>by
  rw[NU]at hl⊢;obtain⟨a1,a2⟩:=ha a (.head _);have F:zs.length=n:=by rw[W.length_eq];unfold iV;simp
  obtain⟨j,S1,K,v,E,k1,C⟩:=oa (e1:=mV 0) (e2:=mK (.int 8)) (ρ:=gj B gm k n zs [ar (.int a),x6,x7,x8,x9,x10]) (m:=8) kp.st rfl rfl (by decide) (by decide);have G:=(Nt.mp g).1;have g1:=(k1.oth B.length G (by omega)).trans g;have L:eS GZ (aQ (au aD (aa (mV 0) (aa (mK (.int 8)) ao)))) (mK (.int 0)) (gj B gm k n zs [ar (.int a),x6,x7,x8,x9,x10]) S'=ar (.ok (decide (0<j)),S1):=vy (y:=.int 0) K rfl rfl;by_cases hj:0<j
  ·obtain⟨i,S2,J,I,w,k2,A⟩:=oa (e1:=mV 0) (e2:=mV 5) (ρ:=gj B gm k n zs [ar (.int a),x6,x7,x8,x9,x10]) (m:=a) k1.st rfl rfl (by omega) (by omega);have g2:=(k2.oth B.length (by omega) (by omega)).trans g1;have v1:aW bE (mV 3) (mV 5) (gj B gm k n zs [ar (.int a),x6,x7,x8,x9,x10]) S1=ar (.ok (.int (zs.getD a 0)),S1):=by
    rw[cg (x:=tupI zs) (y:=.int a) rfl rfl,qv (by omega) (by omega),N5];rfl
   have v2:aW bE (mV 3) (aQ (au aD (aa (mV 0) (aa (mV 5) ao)))) (gj B gm k n zs [ar (.int a),x6,x7,x8,x9,x10]) S1=ar (.ok (.int (zs.getD i.toNat 0)),S2):=by rw[jj (f:=bE) (x:=tupI zs) (S1:=S1) rfl J,qv I (by omega)];rfl
   have H:zs.getD a 0≠zs.getD i.toNat 0:=λz=>by have:=ij W (i:=a) (j:=i.toNat) a2 (by omega) z;omega
   obtain⟨r,s⟩:=qw W (i:=a) a2;obtain⟨t,u⟩:=qw W (i:=i.toNat) (by omega);have P:bN (gj B gm k n zs [ar (.int a),x6,x7,x8,x9,x10]) S'=ar (.ok (.nx (gj B gm k n zs [ar (.int a),ar (.int (zs.getD a 0)),ar (.int (zs.getD i.toNat 0)),x8,x9,x10])),S2.set B.length ((acc++[[if zs.getD i.toNat 0<zs.getD a 0 then zs.getD i.toNat 0 else zs.getD a 0,if zs.getD i.toNat 0>zs.getD a 0 then zs.getD i.toNat 0 else zs.getD a 0]]).map tupI)):=by unfold bN;rw[pN L,if_pos (NI hj)];refine(aL (Jo (cb v1 (cb v2 rfl)))).trans (mG (x:=.non) ((mH (x:=.lst B.length) (y:=tupI [if zs.getD i.toNat 0<zs.getD a 0 then zs.getD i.toNat 0 else zs.getD a 0,if zs.getD i.toNat 0>zs.getD a 0 then zs.getD i.toNat 0 else zs.getD a 0]) (S1:=S2) rfl rfl (jM rfl rfl)).trans ((pd g2 (by rw[Nl];omega)).trans ?_)));rw[NX];rfl
   obtain⟨T,U,S,Z,X,e3,g3,Y,O,k3⟩:=Jp (gm:=gm) Q N W post (acc++[[if zs.getD i.toNat 0<zs.getD a 0 then zs.getD i.toNat 0 else zs.getD a 0,if zs.getD i.toNat 0>zs.getD a 0 then zs.getD i.toNat 0 else zs.getD a 0]]) (S2.set B.length ((acc++[[if zs.getD i.toNat 0<zs.getD a 0 then zs.getD i.toNat 0 else zs.getD a 0,if zs.getD i.toNat 0>zs.getD a 0 then zs.getD i.toNat 0 else zs.getD a 0]]).map tupI)) (ar (.int a)) (ar (.int (zs.getD a 0))) (ar (.int (zs.getD i.toNat 0))) x8 x9 x10 (λb R=>ha b (.tail _ R))
    (by rw[Nn];show acc.length+1+post.length<=100;omega) (gt.snoc (by split<;>omega) (by split<;>split<;>omega) (by split<;>omega)) (NO (by omega)) ((((kp.trans k1).trans k2)).set (Nq _) Q)
   refine⟨T,U,S,Z,X,(d6 rfl P).trans e3,g3,Y,?_,k3⟩;rw[Nn]at O;have:[[if zs.getD i.toNat 0<zs.getD a 0 then zs.getD i.toNat 0 else zs.getD a 0,if zs.getD i.toNat 0>zs.getD a 0 then zs.getD i.toNat 0 else zs.getD a 0]].length=1:=rfl;omega
  ·have P:bN (gj B gm k n zs [ar (.int a),x6,x7,x8,x9,x10]) S'=ar (.ok (.nx (gj B gm k n zs [ar (.int a),x6,x7,x8,x9,x10])),S1):=by
    unfold bN;rw[pN L,if_neg (by rw[NV];exact hj)];rfl
   obtain⟨T,U,S,Z,X,e3,g3,Y,O,k3⟩:=Jp (gm:=gm) Q N W post acc S1 (ar (.int a)) x6 x7 x8 x9 x10 (λb R=>ha b (.tail _ R)) (by omega) gt g1 (kp.trans k1);exact⟨T,U,S,Z,X,(d6 rfl P).trans e3,g3,Y,by omega,k3⟩
theorem Jq{gm:Nat}(Q:k<B.length)(N:n<=7)(R:1<=n):∀(post:List Nat) (acc:List (List Int)) (S':az) (x5 x6 x7 x8 x9 x10:Option D),acc.length+post.length<=100->mI n acc->S'[B.length]? =ar (acc.map tupI)->Kp k B S'->
  ∃(T U Y:Option D) (Z:List (List Int)) (S2:az),dC ⟨its,.none⟩ (gN 8) bO (post.map λb:Nat=>.int (0+(b:Int))) (gj B gm k n zs [x5,x6,x7,x8,x9,x10]) S'=ar (.ok (.nx (gj B gm k n zs [x5,x6,x7,T,U,Y])),S2)/\S2[B.length]? =ar (Z.map tupI)/\mI n Z/\Z.length<=acc.length+post.length/\Kp k B S2
 |[],acc,S',x5,x6,x7,x8,x9,x10,_,gt,g,kp=>⟨x8,x9,x10,acc,S',by rw[Ov,da];rfl,g,gt,Nq _,kp⟩
 | t::post,acc,S',x5,x6,x7,x8,x9,x10,hl,gt,g,kp=>by
  rw[NU]at hl⊢;obtain⟨a,b,S1,e,⟨a0,a1⟩,⟨H,K⟩,k1,I⟩:=xm (e:=aQ (au aD (aa (mV 0) (aa (mV 2) ao)))) (ρ:=gj B gm k n zs [x5,x6,x7,ar (.int t),x9,x10]) (m:=n) kp.st λS hs=>oa hs rfl rfl (by omega) (by omega);have J:=(Nt.mp g).1;have g1:=(k1.oth B.length J (by omega)).trans g;have h0:pV (aQ (de cm (aQ (bp (aa (aQ (au aD (aa (mV 0) (aa (mV 2) ao)))) (aa (aQ (au aD (aa (mV 0) (aa (mV 2) ao)))) ao)))))) (rQ 2 (a9 (gN 9) (a9 (gN 10) eE))) (gj B gm k n zs [x5,x6,x7,ar (.int t),x9,x10]) S'=ar (.ok (.nx (gj B gm k n zs [x5,x6,x7,ar (.int t),ar (.int a),ar (.int b)])),S1):=Ea e rfl;have L:eS qc (mV 9) (mV 10) (gj B gm k n zs [x5,x6,x7,ar (.int t),ar (.int a),ar (.int b)])=a_ (decide (a<b)):=cU (x:=.int a) (y:=.int b) rfl rfl rfl;by_cases hab:a<b
  ·have P:bO (gj B gm k n zs [x5,x6,x7,ar (.int t),x9,x10]) S'=ar (.ok (.nx (gj B gm k n zs [x5,x6,x7,ar (.int t),ar (.int a),ar (.int b)])),S1.set B.length ((acc++[[a,b]]).map tupI)):=by
    unfold bO;refine(aL h0).trans ((N0 ((bU L).trans (if_pos (NI hab))) S1).trans (mG (x:=.non) ((mH (x:=.lst B.length) (y:=tupI [a,b]) (S1:=S1) rfl rfl (jM rfl rfl)).trans ((pd g1 (by rw[Nl];omega)).trans ?_))));rw[NX];rfl
   obtain⟨T,U,Y,Z,W,e3,g3,X,O,k3⟩:=Jq (gm:=gm) Q N R post (acc++[[a,b]]) (S1.set B.length ((acc++[[a,b]]).map tupI)) x5 x6 x7 (ar (.int t)) (ar (.int a)) (ar (.int b)) (by rw[Nn];show acc.length+1+post.length<=100;omega) (gt.snoc a0 hab K) (NO (by omega)) ((kp.trans k1).set (Nq _) Q);refine⟨T,U,Y,Z,W,?_,g3,X,?_,k3⟩
   ·rw[NH,Pj];exact(d6 rfl P).trans e3
   ·rw[Nn]at O;have:[[a,b]].length=1:=rfl;omega
  ·have P:bO (gj B gm k n zs [x5,x6,x7,ar (.int t),x9,x10]) S'=ar (.ok (.nx (gj B gm k n zs [x5,x6,x7,ar (.int t),ar (.int a),ar (.int b)])),S1):=by
    unfold bO;exact(aL h0).trans (N0 ((bU L).trans (if_neg (by rw[NV];exact hab))) S1)
   obtain⟨T,U,Y,Z,W,e3,g3,X,O,k3⟩:=Jq (gm:=gm) Q N R post acc S1 x5 x6 x7 (ar (.int t)) (ar (.int a)) (ar (.int b)) (by omega) gt g1 (kp.trans k1);refine⟨T,U,Y,Z,W,?_,g3,X,by omega,k3⟩;rw[NH,Pj];exact(d6 rfl P).trans e3
end
theorem Jr{e:TM}(h:e ρ S=ar (.ok x,S1)):lX e ρ S=mW [x] S1:=by unfold lX;rw[aI (cb h rfl)]
theorem Gq{mi:aF->M Iter}(Z:mi ρ S=ar (.ok ⟨its,.none⟩,S1))(h:dC ⟨its,.none⟩ g b its ρ S1=ar (.ok o,S2)):ir mi g b ρ S=ar (.ok o,S2):=by unfold ir;rw[aI Z];exact h
theorem MJ(l:List D)(m:Nat):S3.cutD l none (ar (m:Int))=l.take m:=by
 unfold S3.cutD;rw[HT.sIx_none,HT.sIx_nat,RH,Nat.sub_zero];by_cases h:m<=l.length
 ·rw[Nat.min_eq_left h]
 ·rw[Nat.min_eq_right (by omega),PB (Nq _),PB (by omega)]
theorem mI.two(h:mI n T):∀r∈T,r.length=2:=λr Z=>by obtain⟨a,b,rfl,_⟩:=h r Z;rfl
theorem Gr{gm:Nat}{B:az}{acc:List (List Int)}(hs:eB S k)(g:S[B.length]? =ar (acc.map tupI))(Z:mI n acc)(R:acc.length<=18):
  de gx (aQ (de cm (aQ (Bv (aQ (de i8 (mV 4))) oN (oS (mV 1)))))) (gj B gm k n zs r) S=ar (.ok (.tup (((fj acc).take gm).map tupI)),S)/\WebOk n ((fj acc).take gm):=by
 have w:WebOk n ((fj acc).take gm):=⟨λt Y=>Z t (ud.mp (List.mem_of_mem_take Y)),(BU acc).sublist (List.take_sublist _ _),by rw[Oz];have:=gK acc;omega⟩;refine⟨?_,w⟩;have U:aQ (de i8 (mV 4)) (gj B gm k n zs r) S=ar (.ok (.fz ((fj acc).map tupI)),S):=by
  refine pe ((j5 (x:=.lst B.length) (S1:=S) rfl).trans ?_) (Kp.refl hs) rfl (cY _);show(getL B.length>>=λxs=>match rowsOf xs with|some nss=>dw nss|none=>M.fail) S=_;rw[aI (cH g),sh];have Y:Iy acc=true:=N6.mpr λx X=>by rw[Z.two x X];rfl
  show dw acc S=_;unfold dw;rw[if_pos ⟨R,Y⟩];exact cM (by rw[Nl];have:=gK acc;unfold lim;omega)
 have T:aQ (Bv (aQ (de i8 (mV 4))) oN (oS (mV 1))) (gj B gm k n zs r) S=ar (.ok (.fz (((fj acc).take gm).map tupI)),S):=by refine pe ?_ (Kp.refl hs) rfl (cY _);unfold Bv;rw[aI U];show bx (S3.cutD ((fj acc).map tupI) none (ar (gm:Int))) S=_;rw[MJ, <-List.map_take];exact cM (by rw[Nl,Oz];have:=gK acc;unfold lim;omega)
 have W:aQ (de cm (aQ (Bv (aQ (de i8 (mV 4))) oN (oS (mV 1))))) (gj B gm k n zs r) S=ar (.ok (.fz (((fj acc).take gm).map tupI)),S):=by refine pe ((j5 T).trans ?_) (Kp.refl hs) rfl (cY _);show rH (((fj acc).take gm).map tupI) S=_;rw[ug (λx X=>Z.two x (ud.mp (List.mem_of_mem_take X))) (by rw[Oz];have:=gK acc;omega),BR w.ris];exact cM (by rw[Nl,Oz];have:=gK acc;unfold lim;omega)
 refine(j5 W).trans ?_;rw[yW (by rw[Nl,Oz];have:=gK acc;unfold lim;omega)];rfl
theorem Js{gm:Nat}(hg:7<=gm)(b0:gm<=14)(hs:eB S k):∃(n:Nat) (E:List (List Int)) (S1:az),kK (cK [.lst k,.int (gm:Int)]) S=ar (.ok (aA n E),S1)/\n<=7/\WebOk n E/\E.length<=9/\Kp k S S1/\S1.length=S.length:=by
 obtain⟨j,S1,C,j0,j1,k1,l1⟩:=oa (e1:=mV 0) (e2:=au minD (aa (mK (.int 7)) (aa (aW cy (mV 1) (mK (.int 1))) ao))) (ρ:=[ar (.lst k),ar (.int (gm:Int)),none,none,none,none,none,none,none,none,none]) (m:=7) hs rfl ((call2 (x:=.int 7) (y:=.int ((gm:Int)+1)) rfl rfl).trans (show(a_ (D.int (if (gm:Int)+1<7 then (gm:Int)+1 else 7)):M D)=_ from by rw[if_neg (by omega)])) (by decide) (by decide);obtain⟨n,hn⟩:∃n:Nat,1+j=n:=⟨(1+j).toNat,by omega⟩;have Y:n<=7:=by omega
 obtain⟨zs,B,em,A,k2,l2⟩:=xj (n:=n) k1.st (by omega);have G:k<B.length:=by have:=hs.lt;omega
 have K:=k2.st;have L:Cg (mK (.int 1)) (mV 2) (gj B gm k n zs [none,none,none,none,none,none])=a_ ⟨(n3 1 (n - 1)).map λb:Nat=>.int (b:Int),.none⟩:=by
  refine((vj (x:=.int 1) (y:=.int n) rfl rfl).trans (Ge (by omega))).trans ?_;congr 2;have e:((n:Int) - 1).toNat=n - 1:=by omega
  rw[e];unfold bD;rw[Pi,NK];refine O6 λi _=>?_;show D.int (1+(i:Int))= .int ((1+i:Nat):Int);congr 1
 obtain⟨T,U,R,W,I,e3,g3,N,Q,k3⟩:=Jp (gm:=gm) (B:=B) (k:=k) (n:=n) (zs:=zs) (its:=(n3 1 (n - 1)).map λb:Nat=>.int (b:Int)) G Y A (n3 1 (n - 1)) [] (B++[[]]) none none none none none none (λa h=>by have:=OP.mp h;omega) (by rw[PF];simp;omega) (λt ht=>by cases ht) cD (Kp.grow K _);rw[PF]at Q;obtain⟨i,X,z,i0,i1,F,l4⟩:=oa (e1:=mV 0) (e2:=mK (.int 4)) (ρ:=gj B gm k n zs [T,U,R,none,none,none]) (m:=4) k3.st rfl rfl (by decide) (by decide);have l:=(F.oth B.length (Nt.mp g3).1 (by omega)).trans g3;have P:lX (aQ (au aD (aa (mV 0) (aa (mK (.int 4)) ao)))) (gj B gm k n zs [T,U,R,none,none,none]) I=ar (.ok ⟨bD 0 i.toNat,.none⟩,X):=by rw[Jr z,yV (by omega)];rfl
 obtain⟨p,q,J,Z,H,e5,g5,O,g,k5⟩:=Jq (gm:=gm) (B:=B) (k:=k) (n:=n) (zs:=zs) (its:=bD 0 i.toNat) G Y (by omega) (d_ i.toNat) W X T U R none none none (by rw[NS];simp at Q;omega) N l (k3.trans F);rw[NS]at g;simp at Q;obtain⟨hT,w⟩:=Gr (gm:=gm) (zs:=zs) (r:=[T,U,R,p,q,J]) k5.st g5 O (by omega);have hm:fJ [ar (.lst k),ar (.int (gm:Int)),none,none,none,none,none,none,none,none,none] S=ar (.ok (.ret (aA n ((fj Z).take gm))),H):=by
  unfold fJ;have s1:aW cy (mK (.int 1)) (aQ (au aD (aa (mV 0) (aa (au minD (aa (mK (.int 7)) (aa (aW cy (mV 1) (mK (.int 1))) ao))) ao)))) [ar (.lst k),ar (.int (gm:Int)),none,none,none,none,none,none,none,none,none] S=ar (.ok (.int n),S1):=by rw[jj (f:=cy) (x:=.int 1) (S1:=S) rfl C, <-hn];rfl
  have s2:aQ (au cq (aa (mV 0) (aa (mV 2) ao))) [ar (.lst k),ar (.int (gm:Int)),ar (.int n),none,none,none,none,none,none,none,none] S1=ar (.ok (tupI zs),B):=by unfold aQ;rw[call2 (x:=.lst k) (y:=.int n) rfl rfl];exact em
  have s3:bC 4 (bp ao) [ar (.lst k),ar (.int (gm:Int)),ar (.int n),ar (tupI zs),none,none,none,none,none,none,none] B=ar (.ok (.nx (gj B gm k n zs [none,none,none,none,none,none])),B++[[]]):=bJ (cM (S:=B) (us:=[]) (NN _));exact(aL (bJ s1)).trans ((aL (bJ s2)).trans ((aL s3).trans ((aL (gI L e3)).trans ((aL (Gq P e5)).trans (eP (jM (x:=.int n) (S1:=H) rfl hT))))))
 obtain⟨v,u,s⟩:=sj (c:=cK [.lst k,.int (gm:Int)]) (d:=aA n ((fj Z).take gm)) hs (eQ (o:=.ret (aA n ((fj Z).take gm))) hm rfl) ((k1.trans k2).trans k5) sm;exact⟨n,_,v,u,Y,w,by rw[Oz];have:=gK Z;omega,s⟩
theorem iH{F:List D->M D}{e1 e2 e3:TM}(X:e1 ρ=a_ x)(Z:e2 ρ=a_ y)(Y:e3 ρ=a_ z):au F (aa e1 (aa e2 (aa e3 ao))) ρ=F [x,y,z]:=by unfold au;rw[bb X (bb Z (bb Y rfl)),aj]
theorem sr:∀s t:List Int,u_ (s.map pa) (t.map pa)=decide (s=t)
 |[],[]=>by simp[u_]
 |[],_::_=>by simp[u_]
 |_::_,[]=>by simp[u_]
 |x::s,y::t=>by
  rw[NH,NH];unfold u_;rw[sr s t,OU];simp[f_]
theorem Jt:mB (tupI s) (tupI t)=a_ (.bl (!decide (s=t))):=cO λS=>by
 unfold mB;refine(lY (kC s) (kC t)).mpr ⟨?_,rfl⟩;have:f_ (oY s) (oY t)=decide (s=t):=by unfold oY f_;exact sr s t
 rw[this]
def MY(a b:Int):D->Bool
 | .tup [.int x,.int y]=> !decide ([x,y]=[a,b])
 |_=>dt
theorem six{gm:Nat}{v:Int}(X:7<=gm)(Y:0<=i)(Z:i<6):∃u:Int,jT [D.int 0,.int 0,.int 1,.int 2,.int 3,.int (gm:Int)] i=ar (.int u)/\0<=u/\u<=gm:=by obtain⟨d,e,hd⟩:=G9 (xs:=[D.int 0,.int 0,.int 1,.int 2,.int 3,.int (gm:Int)]) Y Z;simp only[gc,fc,or_false]at hd;rcases hd with rfl|rfl|rfl|rfl|rfl|rfl<;>exact⟨_,e,by omega,by omega⟩
abbrev fe(gm k:Nat)(r:List (Option D)):aF:=ar (.lst k)::ar (.int (gm:Int))::r
abbrev m6:TM:=aQ (bp (aS (mK (.int 0)) (aS (mK (.int 0)) (aS (mK (.int 1)) (aS (mK (.int 2)) (aS (mK (.int 3)) (aS (mV 1) ao)))))))
theorem Gs{gm:Nat}(T:7<=gm)(N:gm<=14)(hs:eB S k):∃(n:Nat) (E:List (List Int)) (S1:az),aJ (bC 3 (aW uI (mV 1) (aW bE m6 (aQ (au aD (aa (mV 0) (aa (mK (.int 6)) ao))))))) (bF (aQ (au dH (aa (mV 0) (aa (au maxD (aa (mK (.int 0)) (aa (mV 3) ao))) (aa (aW cy (mV 2) (mK (.int 1))) ao)))))) (fe gm k [ar (.int j),x3,x4,x5,x6,x7]) S=ar (.ok (.ret (aA n E)),S1)/\n<=14/\WebOk n E/\Kp k S S1:=by
 obtain⟨i,S1,X,U,P,k1,K⟩:=oa (e1:=mV 0) (e2:=mK (.int 6)) (ρ:=fe gm k [ar (.int j),x3,x4,x5,x6,x7]) (m:=6) hs rfl rfl (by decide) (by decide);obtain⟨u,Q,L,I⟩:=six (v:=0) T U P;obtain⟨n,O⟩:∃n:Nat,(gm:Int) - u=n:=⟨((gm:Int) - u).toNat,by omega⟩;obtain⟨E,S2,e2,w,k2,J⟩:=Ec (n:=n) (o:=j+1) k1.st (by omega);refine⟨n,E,S2,?_,by omega,w,k1.trans k2⟩;have Y:m6 (fe gm k [ar (.int j),x3,x4,x5,x6,x7])=a_ (.fz [.int 0,.int 0,.int 1,.int 2,.int 3,.int (gm:Int)]):=e9 (us:=[.int 0,.int 0,.int 1,.int 2,.int 3,.int (gm:Int)]) rfl (by show 6<=lim;unfold lim;omega);have W:aW bE m6 (aQ (au aD (aa (mV 0) (aa (mK (.int 6)) ao)))) (fe gm k [ar (.int j),x3,x4,x5,x6,x7]) S=ar (.ok (.int u),S1):=by refine(jj (N0 Y S) X).trans ?_;show(match jT [D.int 0,.int 0,.int 1,.int 2,.int 3,.int (gm:Int)] i with|some d=>(a_ d:M D)|none=>M.fail) S1=_;rw[Q];rfl
 have R:aW uI (mV 1) (aW bE m6 (aQ (au aD (aa (mV 0) (aa (mK (.int 6)) ao))))) (fe gm k [ar (.int j),x3,x4,x5,x6,x7]) S=ar (.ok (.int n),S1):=by rw[jj (f:=uI) (x:=.int (gm:Int)) (S1:=S) rfl W, <-O];rfl
 have Z:au maxD (aa (mK (.int 0)) (aa (mV 3) ao)) (fe gm k [ar (.int j),ar (.int n),x4,x5,x6,x7])=a_ (.int n):=by
  refine(call2 (x:=.int 0) (y:=.int n) rfl rfl).trans ?_;have:(if (n:Int)>0 then (n:Int)else 0)=n:=by split<;>omega
  show a_ (D.int (if (n:Int)>0 then (n:Int)else 0))=a_ (D.int n);rw[this]
 exact(aL (bJ R)).trans (eP ((N0 (QL kK (iH (F:=dH) (e1:=mV 0) (e3:=aW cy (mV 2) (mK (.int 1))) (x:=.lst k) (z:=.int (j+1)) rfl Z rfl)) S1).trans e2))
theorem xn{α:Type}{p:α->Bool}:∀{l:List α},(l.filter p).length=l.length->∀x∈l,p x=cn
 |[],_,x,h=>by cases h
 | a::l,h,x,hx=>by
  cases q:p a with
  |true=>
   rw[OK q,NU,NU]at h;rcases NJ.mp hx with rfl|hx
   ·exact q
   ·exact xn (by omega) x hx
  |false=>
   rw[Oo (by rw[q];decide),NU]at h;have:=Ob p l;omega
theorem BX{T:List (List Int)}{a b:Int}(Z:∀t∈T,∃x y:Int,t=[x,y]):(T.map tupI).filter (MY a b)=(T.filter λt=> !decide (t=[a,b])).map tupI:=by rw[RD];congr 1;refine O4 λt Y=>?_;obtain⟨x,y,rfl⟩:=Z t Y;rfl
theorem BY{n:Nat}{a b:Int}(Z:0<=a)(X:a<b)(Y:b<n):[a,b]∈gJ n:=by unfold gJ pX;refine QE.mpr ⟨a.toNat,NR.mpr (by omega),NL.mpr ⟨b.toNat,OP.mpr (by omega),?_⟩⟩;rw[Int.toNat_of_nonneg Z,Int.toNat_of_nonneg (by omega)]
theorem Gu{S:az}{gm k n:Nat}{j:Int}{x3 x5 x6 x7:Option D}{T:List (List Int)}(hs:eB S k)(hn:2<=n)(a4:n<=14)(w:WebOk n T)(c:T.length<=36):∃(E:List (List Int)) (S1:az),aJ (pV (aQ (de cm (aQ (bp (aa (aQ (au aD (aa (mV 0) (aa (aW bE (mV 4) (mK (.int 0))) ao)))) (aa (aQ (au aD (aa (mV 0) (aa (aW bE (mV 4) (mK (.int 0))) ao)))) ao)))))) (rQ 2 (a9 (gN 5) (a9 (gN 6) eE)))) (aJ (bC 7 (bj (bX (aW bE (mV 4) (mK (.int 1)))) (gN 0) fy fA [none,ar 5,ar 6])) (aJ (jQ (nV (eS qc (mV 5) (mV 6)) (eS oE (de dm (mV 7)) (de dm (aW bE (mV 4) (mK (.int 1)))))) (sW (wC dE (mV 7) (dq (aa (mV 5) (aa (mV 6) ao))))) d4) (bF (dq (aa (aW bE (mV 4) (mK (.int 0))) (aa (de gx (aQ (de cm (mV 7)))) ao)))))) (fe gm k [ar (.int j),x3,ar (aA n T),x5,x6,x7]) S=ar (.ok (.ret (aA n E)),S1)/\WebOk n E/\Kp k S S1:=by
 obtain⟨a,b,S1,e1,⟨a0,a1⟩,⟨b0,b1⟩,k1,l1⟩:=xm (e:=aQ (au aD (aa (mV 0) (aa (aW bE (mV 4) (mK (.int 0))) ao)))) (ρ:=fe gm k [ar (.int j),x3,ar (aA n T),x5,x6,x7]) (m:=n) hs λS hs=>oa hs rfl rfl (by omega) (by omega);have hT:=w.few;have v:∀t∈T,∃x y:Int,t=[x,y]:=λt X=>by obtain⟨x,y,e,_⟩:=w.el t X;exact⟨x,y,e⟩
 have R:T.Nodup:=w.ris.imp λ{a b} h e=>by subst e;rw[kd]at h;cases h
 have B:bj (bX (aW bE (mV 4) (mK (.int 1)))) (gN 0) fy fA [none,ar 5,ar 6] (fe gm k [ar (.int j),x3,ar (aA n T),ar (.int a),ar (.int b),x7])=bx ((T.filter λt=> !decide (t=[a,b])).map tupI):=by have o:bX (aW bE (mV 4) (mK (.int 1))) (fe gm k [ar (.int j),x3,ar (aA n T),ar (.int a),ar (.int b),x7])=a_ ⟨T.map tupI,.none⟩:=rfl;unfold bj;rw[o,aj,show fS [none,ar 5,ar 6] (fe gm k [ar (.int j),x3,ar (aA n T),ar (.int a),ar (.int b),x7])=[none,ar (.int a),ar (.int b)]from rfl,Ai (λρ=>∃x,ρ=[x,ar (.int a),ar (.int b)]) (MY a b) id (by rw[Nl];unfold lim;omega) ⟨none,rfl⟩,aj,SX,BX v];rintro d hd ρ ⟨x,rfl⟩;obtain⟨t,X,rfl⟩:=NL.mp hd;obtain⟨x,y,rfl⟩:=v t X;exact⟨_,rfl,⟨_,rfl⟩,cU (x:=tupI [x,y]) (y:=tupI [a,b]) rfl rfl Jt,λ_=>rfl⟩
 generalize hF:(T.filter λt=> !decide (t=[a,b]))=F at B;have Z:F.Sublist T:=by rw[<-hF];exact P5
 have s:=Z.length_le;have hk:k<S1.length:=by have:=hs.lt;omega
 have s1:pV (aQ _) (rQ 2 (a9 (gN 5) (a9 (gN 6) eE))) (fe gm k [ar (.int j),x3,ar (aA n T),x5,x6,x7]) S=ar (.ok (.nx (fe gm k [ar (.int j),x3,ar (aA n T),ar (.int a),ar (.int b),x7])),S1):=Ea e1 rfl;have s2:bC 7 (bj (bX (aW bE (mV 4) (mK (.int 1)))) (gN 0) fy fA [none,ar 5,ar 6]) (fe gm k [ar (.int j),x3,ar (aA n T),ar (.int a),ar (.int b),x7]) S1=ar (.ok (.nx (fe gm k [ar (.int j),x3,ar (aA n T),ar (.int a),ar (.int b),ar (.lst S1.length)])),S1++[F.map tupI]):=bJ ((N0 B S1).trans (cM (by rw[Nl];unfold lim;omega)));have W:de dm (mV 7) (fe gm k [ar (.int j),x3,ar (aA n T),ar (.int a),ar (.int b),ar (.lst S1.length)]) (S1++[F.map tupI])=ar (.ok (.int F.length),S1++[F.map tupI]):=by refine(j5 (x:=.lst S1.length) (S1:=S1++[F.map tupI]) rfl).trans ?_;show(getL S1.length>>=λxs=>a_ (D.int xs.length)) _=_;rw[aI (cH cD),Nl];rfl
 have U:de dm (aW bE (mV 4) (mK (.int 1))) (fe gm k [ar (.int j),x3,ar (aA n T),ar (.int a),ar (.int b),ar (.lst S1.length)])=a_ (.int T.length):=by refine(jE (x:=.tup (T.map tupI)) rfl).trans ?_;show a_ (D.int (T.map tupI).length)=_;rw[Nl]
 have X:nV (eS qc (mV 5) (mV 6)) (eS oE (de dm (mV 7)) (de dm (aW bE (mV 4) (mK (.int 1))))) (fe gm k [ar (.int j),x3,ar (aA n T),ar (.int a),ar (.int b),ar (.lst S1.length)]) (S1++[F.map tupI])=ar (.ok (decide (a<b) && decide ((F.length:Int)=T.length)),S1++[F.map tupI]):=by
  have q:eS qc (mV 5) (mV 6) (fe gm k [ar (.int j),x3,ar (aA n T),ar (.int a),ar (.int b),ar (.lst S1.length)]) (S1++[F.map tupI])=ar (.ok (decide (a<b)),S1++[F.map tupI]):=rfl;have K:=vy (f:=oE) W (N0 U _) G8;show(eS qc (mV 5) (mV 6) _>>=_) _=_;rw[aI q];cases decide (a<b)with
  |true=>exact K
  |false=>rfl
 have fin:∀(G:List (List Int)) (S2:az),S2[S1.length]? =ar (G.map tupI)->Kp k S S2->G.Nodup->(∀t∈G,∃a b:Int,t=[a,b]/\0<=a/\a<b/\b<n)->G.length<=37->∃(E:List (List Int)) (Y:az),bF (dq (aa (aW bE (mV 4) (mK (.int 0))) (aa (de gx (aQ (de cm (mV 7)))) ao))) (fe gm k [ar (.int j),x3,ar (aA n T),ar (.int a),ar (.int b),ar (.lst S1.length)]) S2=ar (.ok (.ret (aA n E)),Y)/\WebOk n E/\Kp k S Y:=λG S2 g A nd C hl=>by
  have z:WebOk n (ef G):=WebOk.sort nd C (by omega);have K:aQ (de cm (mV 7)) (fe gm k [ar (.int j),x3,ar (aA n T),ar (.int a),ar (.int b),ar (.lst S1.length)]) S2=ar (.ok (.fz ((ef G).map tupI)),S2):=by unfold aQ;rw[jE (f:=cm) (m:=mV 7) (ρ:=fe gm k [ar (.int j),x3,ar (aA n T),ar (.int a),ar (.int b),ar (.lst S1.length)]) (x:=.lst S1.length) rfl];exact uh A.st g (λr u=>by obtain⟨a,b,e,_⟩:=C r u;rw[e];rfl) (by omega)
  refine⟨ef G,S2,eP (jM (x:=.int n) (S1:=S2) rfl ((j5 K).trans ?_)),z,A⟩;rw[yW (by rw[Nl];have:=z.few;unfold lim;omega)];rfl
 have P:Kp k S (S1++[F.map tupI]):=k1.trans (Kp.grow k1.st _);by_cases hq:(decide (a<b) && decide ((F.length:Int)=T.length))=cn
 ·have H:a<b:=Om (Pf.mp hq).1;have J:F.length=T.length:=by have:=Om (Pf.mp hq).2;omega
  have Q:[a,b]∉T:=λh=>by have:=xn (p:=λt=> !decide (t=[a,b])) (l:=T) (by rw[hF];exact J) _ h;simp at this
  have O:(F++[[a,b]]).Nodup:=by
   refine Rc.mpr ⟨R.sublist Z,Ol.mpr ⟨by simp,List.nodup_nil⟩,λx i y hy e=>?_⟩;have L:y=[a,b]:=by simpa using hy
   subst e L;exact Q (Z.subset i)
  have N:∀t∈F++[[a,b]],∃a b:Int,t=[a,b]/\0<=a/\a<b/\b<n:=λt X=>by
   rcases Oj.mp X with h|h
   ·exact w.el t (Z.subset h)
   ·exact⟨a,b,by simpa using h,a0,H,b1⟩
  obtain⟨E,Y,e3,I,k3⟩:=fin (F++[[a,b]]) ((S1++[F.map tupI]).set S1.length ((F++[[a,b]]).map tupI)) (NO (by rw[Nn];exact Po _)) (P.set (by omega) hs.lt)
   O N (by rw[Nn];show F.length+1<=37;omega)
  refine⟨E,Y,(aL s1).trans ((aL s2).trans ((aL (ρ':=fe gm k [ar (.int j),x3,ar (aA n T),ar (.int a),ar (.int b),ar (.lst S1.length)]) (S1:=(S1++[F.map tupI]).set S1.length ((F++[[a,b]]).map tupI)) ?_).trans e3)),I,k3⟩;rw[pN X,if_pos hq];refine mG (x:=.non) ((mH (x:=.lst S1.length) (y:=tupI [a,b]) (S1:=S1++[F.map tupI]) rfl rfl (jM rfl rfl)).trans ((pd cD (by rw[Nl];omega)).trans ?_));rw[NX];rfl
 ·obtain⟨E,Y,e3,I,k3⟩:=fin F (S1++[F.map tupI]) cD P (R.sublist Z) (λt X=>w.el t (Z.subset X)) (by omega);refine⟨E,Y,(aL s1).trans ((aL s2).trans ((aL (ρ':=fe gm k [ar (.int j),x3,ar (aA n T),ar (.int a),ar (.int b),ar (.lst S1.length)]) (S1:=S1++[F.map tupI]) ?_).trans e3)),I,k3⟩;rw[pN X,if_neg hq];rfl
theorem Ju{gm:Nat}(C:7<=gm)(X:gm<=14)(hs:eB S k):∃(n:Nat) (E:List (List Int)) (S1:az),fP [.lst k,.int (gm:Int)] S=ar (.ok (aA n E),S1)/\n<=14/\WebOk n E/\Kp k S S1:=by
 suffices h:∃(n:Nat) (E:List (List Int)) (S1:az),km (fe gm k [none,none,none,none,none,none]) S=ar (.ok (.ret (aA n E)),S1)/\n<=14/\WebOk n E/\Kp k S S1 by obtain⟨n,E,S1,e,K,w,W⟩:=h;exact⟨n,E,S1,eQ (o:=.ret (aA n E)) e rfl,K,w,W⟩
 obtain⟨j,S1,R,j0,a,k1,l1⟩:=oa (e1:=mV 0) (e2:=mK (.int 6)) (ρ:=fe gm k [none,none,none,none,none,none]) (m:=6) hs rfl rfl (by decide) (by decide);have U:eS qc (mV 2) (mK (.int 3)) (fe gm k [ar (.int j),none,none,none,none,none])=a_ (decide (j<3)):=cU (x:=.int j) (y:=.int 3) rfl rfl rfl;unfold km;by_cases hj:j<3
 ·obtain⟨n,E,S2,e2,K,w,k2⟩:=Gs (gm:=gm) (j:=j) (x3:=none) (x4:=none) (x5:=none) (x6:=none) (x7:=none) C X k1.st;exact⟨n,E,S2,(aL (bJ R)).trans (lG ((N0 ((bU U).trans (if_pos (NI hj))) S1).trans e2)),K,w,k1.trans k2⟩
 ·obtain⟨I,E0,S2,e2,q,w0,N,k2,l2⟩:=Js C X k1.st;obtain⟨T,p,e3,wT,Y,k3⟩:=Ee (n:=I) k2.st N λt U=>by obtain⟨x,y,e,_⟩:=w0.el t U;exact⟨x,y,e⟩
  obtain⟨P,B,O,b⟩:=sj (c:=au ia (aa (aQ (au cK (aa (mV 0) (aa (mV 1) ao)))) ao) (fe gm k [ar (.int j),none,none,none,none,none])) (d:=aA E0.length T) k1.st (by
   have hf:aQ (au cK (aa (mV 0) (aa (mV 1) ao))) (fe gm k [ar (.int j),none,none,none,none,none]) S1=ar (.ok (aA I E0),S2):=by unfold aQ;rw[call2 (x:=.lst k) (y:=.int (gm:Int)) rfl rfl];exact e2
   exact(aI (cb hf rfl)).trans e3) (k2.trans k3) sm
  obtain⟨zs,s,g,v,k5,l5⟩:=xj (n:=E0.length) O.st (by omega);obtain⟨L,S6,u,G,l6,r⟩:=BW k5.st v wT Y;obtain⟨Z,F,H,l7⟩:=sj (c:=au fZ (aa (mV 4) (aa (aQ (au cq (aa (mV 0) (aa (aW bE (mV 4) (mK (.int 0))) ao)))) ao)) (fe gm k [ar (.int j),none,ar (aA E0.length T),none,none,none])) (d:=aA E0.length L) O.st (by
   have hf:aQ (au cq (aa (mV 0) (aa (aW bE (mV 4) (mK (.int 0))) ao))) (fe gm k [ar (.int j),none,ar (aA E0.length T),none,none,none]) P=ar (.ok (tupI zs),s):=by unfold aQ;rw[call2 (x:=.lst k) (y:=.int E0.length) rfl rfl];exact g
   exact(aI (cb (x:=aA E0.length T) rfl (cb hf rfl))).trans u) (k5.trans r) sm
  have W:=(k1.trans O).trans H;have J:xQ (eS oE (mV 2) (mK (.int 3))) (eS qc (aW bE (mV 4) (mK (.int 0))) (mK (.int 2))) (fe gm k [ar (.int j),none,ar (aA E0.length L),none,none,none])=a_ (decide (j=3)||decide ((E0.length:Int)<2)):=or_eq (cU (x:=.int j) (y:=.int 3) rfl rfl G8) (cU (x:=.int E0.length) (y:=.int 2) rfl rfl rfl);have s2:∀A:cw,jQ (eS qc (mV 2) (mK (.int 3))) A d4 (fe gm k [ar (.int j),none,none,none,none,none]) S1=ar (.ok (.nx (fe gm k [ar (.int j),none,none,none,none,none])),S1):=λA=>N0 ((bU U).trans (if_neg (by rw[NV];exact hj))) S1;by_cases hq:(decide (j=3)||decide ((E0.length:Int)<2))=cn
  ·refine⟨E0.length,L,Z,(aL (bJ R)).trans ((aL (s2 _)).trans ((aL (bJ B)).trans ((aL (bJ F)).trans (lG (N0 ((bU J).trans (if_pos hq)) Z))))),by omega,G,W⟩
  ·have i:2<=E0.length:=by
    rw[RE,NV,NV]at hq;omega
   obtain⟨E,Q,f,z,l⟩:=Gu (gm:=gm) (j:=j) (x3:=none) (x5:=none) (x6:=none) (x7:=none) H.st i (by omega) G (by omega);exact⟨E0.length,E,Q,(aL (bJ R)).trans ((aL (s2 _)).trans ((aL (bJ B)).trans ((aL (bJ F)).trans ((aL (N0 ((bU J).trans (if_neg hq)) Z)).trans f)))),by omega,z,W.trans l⟩
end W
namespace S7
open PySem PySem.Spec PyProof.Rows L2 S3
section
variable {X:Cx}{E:XD}{scope:Scope}{Nc:List Str}{js:List (Option Nat)}{elt tg iter:Expr}{ifs:List Expr}{pos:Pos}{mi:S3.aF->M Iter}{g:mw}{t:S3.aF->M Bool}{m:TM}
end
end S7
namespace W
open PySem PySem.Spec PyProof.Rows L2 S3 S4 S7
section
variable {α:Type}{l:List α}{mk f:α->D}{mi:aF->M Iter}{g:mw}{t:gz}{m:TM}{ρ:aF}{js:List (Option Nat)}{its:List D}
theorem Eg(R:aF->Prop)(q:α->Bool):∀(l:List α) (ρ:aF),R ρ->(∀a∈l,∀ ρ,R ρ->∃Z,g (mk a) ρ=a_ Z/\R Z/\t Z=a_ (q a)/\(q a=cn->m Z=a_ (f a)))->cF ⟨its,.none⟩ g t m (l.map mk) ρ=a_ ((l.filter q).map f)
 |[],ρ,_,_=>by unfold cF;rw[cQ];rfl
 |a::l,ρ,hR,h=>by
  obtain⟨Z,S,X,T,U⟩:=h a (.head _) ρ hR;have Y:=Eg R q l Z X λb W=>h b (.tail _ W);rw[NH];unfold cF;rw[cQ,aj,S,aj,T,aj,Y];cases hq:q a with
  |true=>rw[OK hq,if_pos rfl,U hq,aj];rfl
  |false=>rw[Oo (by rw[hq];decide),if_neg (by decide)]
theorem yZ(R:aF->Prop)(q:α->Bool)(Z:mi ρ=a_ ⟨l.map mk,.none⟩)(W:l.length<=lim)(Y:R (fS js ρ))(X:∀a∈l,∀ ρ,R ρ->∃ ρ1,g (mk a) ρ=a_ ρ1/\R ρ1/\t ρ1=a_ (q a)/\(q a=cn->m ρ1=a_ (f a))):
  bj mi g t m js ρ=bx ((l.filter q).map f):=by
 unfold bj;rw[Z,aj];unfold eV;rw[if_pos (by show(l.map mk).length<=lim;rw[Nl];exact W)];show(cF _ g t m (l.map mk) _>>=_)=_;rw[Eg R q l _ Y X,aj]
theorem kL(R:aF->Prop)(q:α->Bool)(Y:mi ρ=a_ ⟨l.map mk,.none⟩)(Z:l.length<=lim)(X:R (fS js ρ))(W:∀a∈l,∀ ρ,R ρ->∃ ρ1,g (mk a) ρ=a_ ρ1/\R ρ1/\t ρ1=a_ (q a)/\(q a=cn->m ρ1=a_ (f a)))
  (U:bY 0 ((l.filter q).map f)=cn):aQ (bj mi g t m js) ρ=a_ (.fz ((l.filter q).map f)):=by
 unfold aQ;rw[yZ R q Y Z X W];exact e9 U (by rw[Nl];exact Nv (Ob _ _) Z)
theorem Lg(R:aF->Prop)(q:α->Bool)(Y:mi ρ=a_ ⟨l.map mk,.none⟩)(Z:l.length<=lim)(X:R (fS js ρ))(W:∀a∈l,∀ ρ,R ρ->∃ ρ1,g (mk a) ρ=a_ ρ1/\R ρ1/\t ρ1=a_ (q a)/\(q a=cn->m ρ1=a_ (f a)))
  (U:bY 0 ((l.filter q).map f)=cn):aQ (JT (bj mi g t m js)) ρ=a_ (.fz ((l.filter q).map f)):=by
 unfold aQ JT;rw[yZ R q Y Z X W,ua];exact e9 U (by rw[Nl];exact Nv (Ob _ _) Z)
end
theorem things{es:aF->M (List D)}{ρ:aF}{us:List D}(Z:es ρ=a_ us)(Y:bY 0 us=cn)(X:us.length<=50):aQ (bp es) ρ=a_ (.fz us):=by show kK (es ρ>>=bx)=_;rw[Z,aj];exact e9 Y (by unfold lim;omega)
theorem Jv{f:D->List D->M D}{e1 e2:TM}{ρ:aF}{xs:List D}{y:D}(Y:e1 ρ=a_ (.tup xs))(Z:e2 ρ=a_ y):Gc f e1 e2 ρ=f (.tup xs) [y]:=by unfold Gc;rw[Y,aj,show MU (.tup xs)=a_ ()from rfl,aj,Z,aj,aj,aj]
section
variable {α β:Type}
theorem LK{its:List D}{g:mw}{t:gz}{bd:BM}{mk:α->D}(R:aF->Prop)(q:α->Bool)(f:α->List D):∀(l:List α) (ρ:aF),R ρ->(∀a∈l,∀ ρ,R ρ->∃Z,g (mk a) ρ=a_ Z/\t Z=a_ (q a)/\(q a=cn->∃Y,R Y/\bd Z=a_ (f a,Y))/\(q a=dt->R Z))->∃ ρ',R ρ'/\cB ⟨its,.none⟩ g t bd (l.map mk) ρ=a_ ((l.filter q).flatMap f,ρ')
 |[],ρ,hR,_=>⟨ρ,hR,by rw[Ov];unfold cB;rw[cQ];rfl⟩
 | a::l,ρ,hR,hb=>by
  obtain⟨Z,e1,e2,e3,S⟩:=hb a (.head _) ρ hR;have W:=λx P=>hb x (Nx a P);rw[NH];cases hq:q a with
  |true=>
   obtain⟨Y,T,Q⟩:=e3 hq;obtain⟨ρ',X,U⟩:=LK R q f l Y T W;refine⟨ρ',X,?_⟩;unfold cB;rw[cQ,aj,e1,aj,e2,aj,hq,if_pos rfl,Q,aj];show(cB _ g t bd (l.map mk) Y>>=_)=_;rw[U,aj,OK hq];rfl
  |false=>
   obtain⟨ρ',X,U⟩:=LK R q f l Z (S hq) W;refine⟨ρ',X,?_⟩;unfold cB;rw[cQ,aj,e1,aj,e2,aj,hq,if_neg (by decide),U,Oo (by rw[hq];decide)]
theorem y0{l:List α}{mk:α->D}{mk2:β->D}{mi mi2:aF->M Iter}{g g2:mw}{t t2:gz}{m:TM}{js:List (Option Nat)}{ρ:aF}(R:aF->Prop)(R2:α->aF->Prop)(Z:α->List β)(q:α->β->Bool)(f:α->β->D)
  (F:mi ρ=a_ ⟨l.map mk,.none⟩) (K:l.length<=3000) (J:R (fS js ρ)) (T:∀a ρ,R2 a ρ->R ρ)
  (Q:∀a∈l,∀ ρ,R ρ->∃X,g (mk a) ρ=a_ X/\t X=a_ cn/\R2 a X/\mi2 X=a_ ⟨(Z a).map mk2,.none⟩/\(Z a).length<=3000)
  (P:∀a∈l,∀b∈Z a,∀ ρ,R2 a ρ->∃Y,g2 (mk2 b) ρ=a_ Y/\R2 a Y/\t2 Y=a_ (q a b)/\(q a b=cn->m Y=a_ (f a b))):
  m3 mi g t mi2 g2 t2 m js ρ=bx (l.flatMap λa=>((Z a).filter (q a)).map (f a)):=by
 obtain⟨ρ',_,e⟩:=LK (its:=l.map mk) (g:=g) (t:=t) (bd:=KS mi2 g2 t2 m) (mk:=mk) R (λ_=>cn) (λa=>((Z a).filter (q a)).map (f a)) l (fS js ρ) J λa S ρ W=>by
  obtain⟨X,H,E,O,N,G⟩:=Q a S ρ W;refine⟨X,H,E,λ_=>?_,λh=>by cases h⟩;obtain⟨Y,C,e2⟩:=LK (its:=(Z a).map mk2) (g:=g2) (t:=t2) (bd:=BH m) (mk:=mk2) (R2 a) (q a) (λb=>[f a b]) (Z a) X O λb U ρ W=>by obtain⟨Y,k1,k2,k3,L⟩:=P a S b U ρ W;refine⟨Y,k1,k3,λI=>⟨Y,k2,?_⟩,λ_=>k2⟩;show(m Y>>=_)=_;rw[L I];rfl
  refine⟨Y,T a _ C,?_⟩;unfold KS;rw[N,aj];dsimp only;rw[if_pos (by rw[Nl];exact G),e2];congr 2
  induction (Z a).filter (q a)with
  |nil=>rfl
  |cons b l ih=>rw[NY,ih,NH];rfl
 unfold m3;rw[F,aj];dsimp only;rw[if_pos (by rw[Nl];exact K),e,aj];dsimp only;rw[cT]
end
def gn{α:Type}:Nat->List α->List (List α)
 |0,_=>[[]]
 |_+1,[]=>[]
 |k+1,x::l=>(gn k l).map (x::·)++gn (k+1) l
section
variable {α:Type}
theorem su{k:Nat}:∀{l:List α} {c:List α},c∈gn k l->c.length=k/\c.Sublist l:=by
 induction k with
 |zero=>
  intro l c h;have:c=[]:=by cases l<;>exact Og.mp h
  subst this;exact⟨rfl,List.nil_sublist _⟩
 | succ k ih=>
  intro l
  induction l with
  |nil=>intro c h;cases h
  | cons x l ih2=>
   intro c h;rcases Oj.mp (show c∈(gn k l).map (x::·)++gn (k+1) l from h)with h|h
   ·obtain⟨d,hd,rfl⟩:=NL.mp h;obtain⟨Y,Z⟩:=ih hd;exact⟨by rw[NU,Y],Z.cons₂ _⟩
   ·obtain⟨Y,Z⟩:=ih2 h;exact⟨Y,Z.cons _⟩
theorem Eh(k:Nat):∀(l:List α),gn (k+1) l=l.zipIdx.flatMap λp=>(gn k (l.drop (p.2+1))).map (p.1::·):=by
 have key:∀(l pre:List α),gn (k+1) l=(l.zipIdx pre.length).flatMap λp=>(gn k ((pre++l).drop (p.2+1))).map (p.1::·):=by
  intro l
  induction l with
  |nil=>intro pre;rfl
  |cons x l ih=>
   intro pre;rw[RP,NY];show(gn k l).map (x::·)++gn (k+1) l=_;have:=ih (pre++[x]);rw[Nn,ND]at this;rw[this];congr 2;show gn k l=gn k ((pre++x::l).drop (pre.length+1));rw[show pre++x::l=(pre++[x])++l by simp,List.drop_left' (by simp)]
 intro l;exact key l []
theorem qx(k:Nat):∀l:List α,(gn k l).length<=l.length ^ k:=by
 induction k with
 |zero=>intro l;cases l<;>exact Nq _
 | succ k ih=>
  intro l
  induction l with
  |nil=>exact NN _
  |cons x l ih2=>
   show((gn k l).map (x::·)++gn (k+1) l).length<=_;rw[Nn,Nl,NU];have U:=ih l;have Z:l.length ^ k<=(l.length+1) ^ k:=O7 (P3 _) k;have W:l.length ^ (k+1)=l.length ^ k*l.length:=Sw ..;have Y:(l.length+1) ^ (k+1)=(l.length+1) ^ k*(l.length+1):=Sw ..;have X:l.length ^ k*l.length<=(l.length+1) ^ k*l.length:=Nat.mul_le_mul_right _ Z;rw[Y,Nat.mul_succ];omega
end
theorem Lh(l:List D)(a:Nat):S3.cutD l (ar (a:Int)) none=l.drop a:=by
 unfold S3.cutD;rw[HT.sIx_none,HT.sIx_nat];by_cases h:a<=l.length
 ·rw[Nat.min_eq_left h,PB (by rw[O9];exact Nq _)]
 ·rw[Nat.min_eq_right (by omega),OM (Nq _),OM (by omega),List.take_nil]
theorem Ax(i:Nat)(l:List D)(h:bY 0 l=cn):bY 0 (l.drop i)=true:=by
 induction l generalizing i with
 |nil=>rw[List.drop_nil];rfl
 | cons x l ih=>
  match i with
  |0=>exact h
  |i+1=>
   unfold bY at h;rw[OA]at h;exact ih i h.2
theorem Jw{l:List D}(h:bY 0 l=cn):∀x∈l,fY 0 x=true:=by
 induction l with
 |nil=>intro x Z;cases Z
 |cons y l ih=>
  intro x Z;unfold bY at h;rw[OA]at h;rcases NJ.mp Z with rfl|Z
  ·exact h.1
  ·exact ih h.2 x Z
theorem sv{l:List D}(h:∀x∈l,fY 0 x=cn):bY 0 l=true:=by
 induction l with
 |nil=>rfl
 |cons y l ih=>
  unfold bY;rw[h y (.head _),ih λx Z=>h x (.tail _ Z)];rfl
def Sq(b:Bool)(us:List D):D:=if b then .fz us else .tup us
theorem Ay{b:Bool}{us:List D}{ρ:aF}{e e2:TM}{i:Nat}(h:e ρ=a_ (Sq b us))(Y:e2 ρ=a_ (.int i))(W:us.length<=3000)(X:bY 0 us=cn):aQ (Bv e (oS e2) oN) ρ=a_ (Sq b (us.drop i)):=by
 have hd:(us.drop i).length<=lim:=by rw[O9];unfold lim;omega
 have h0:Bv e (oS e2) oN ρ=uM (Sq b us) (ar (i:Int)) none:=by show(e ρ>>=λx=>oS e2 ρ>>=λlo=>oN ρ>>=λZ=>uM x lo Z)=_;rw[h,aj,show oS e2 ρ=a_ (ar (i:Int)) by unfold oS;rw[Y];rfl,aj,show oN ρ=a_ none from rfl,aj]
 unfold aQ;rw[h0];cases b with
 |true=>
  show kK (bx (S3.cutD us (ar (i:Int)) none))=_;rw[Lh];exact e9 (Ax i us X) hd
 |false=>
  show kK (bP (S3.cutD us (ar (i:Int)) none))=_;rw[Lh];unfold bP;rw[if_pos hd];exact Ah
theorem Gv{ρ:aF}{e1 e2:TM}{xs ys:List D}(Y:e1 ρ=a_ (.tup xs))(Z:e2 ρ=a_ (.tup ys))(X:xs.length+ys.length<=100):aQ (aW cy e1 e2) ρ=a_ (.tup (xs++ys)):=by refine kA ((cg Y Z).trans ?_);show bP (xs++ys)=_;unfold bP;rw[if_pos (by rw[Nn];unfold lim;omega)]
theorem Jx{ρ:aF}{e:TM}{x:D}(h:e ρ=a_ x):dq (aa e ao) ρ=a_ (.tup [x]):=by show(aa _ _ _>>=bP)=_;rw[bb h (es:=ao) rfl,aj];unfold bP;exact if_pos (by show 1<=lim;unfold lim;omega)
theorem lH{α:Type}(l:List α):gn 0 l=[[]]:=by cases l<;>rfl
theorem Jy{k:Nat}{us:List D}(Z:bY 0 us=cn):bY 0 ((gn k us).map D.tup)=true:=sv λx Y=>by obtain⟨c,h,rfl⟩:=NL.mp Y;unfold fY;exact sv λy X=>Jw Z y ((su h).2.subset X)
theorem mj{b:Bool}:∀(k j:Nat) (us:List D),k<=j->k<=50->us.length ^ k<=3000*3000->(∀i,i<k->us.length ^ i<=3000)->us.length<=3000->bY 0 us=cn->eM (j+1) [Sq b us,.int k]=a_ (.fz ((gn k us).map D.tup))
 |0,j,us,_,_,_,_,_,_=>by
  rw[lH];refine dj (o:=.ret (.fz [.tup []])) ?_ rfl;show gH _ [ar (Sq b us),ar (.int ((0:Nat):Int))]=_;unfold gH;refine ig ((bU (b:=cn) (cU (x:=.int ((0:Nat):Int)) (y:=.int 0) rfl rfl G8)).trans ((if_pos rfl).trans (cL ?_)));exact things (us:=[.tup []]) (bb (e:=mK (.tup [])) (x:=.tup []) rfl (es:=ao) rfl) rfl (by show 1<=50;decide)
 |k+1,0,us,h,_,_,_,_,_=>by omega
 | k +1,j+1,us,hj,h50,W,hp2,hl,hc=>by
  have R:=hp2 k (by omega);have Z:∀i,i<=k->∀m,(us.drop m).length ^ i<=3000:=λi Q m=>by have S:(us.drop m).length ^ i<=us.length ^ i:=O7 (by rw[O9];omega) i;exact Nv S (hp2 i (by omega))
  have X:=y0 (α:=D×Nat) (β:=List D) (l:=us.zipIdx) (mk:=λp:D×Nat=>D.tup [.int (p.2:Int),p.1]) (mk2:=D.tup) (mi:=G5 (mV 0)) (mi2:=bX (aQ (au (eM (j+1)) (aa (aQ (Bv (mV 3) (oS (aW cy (mV 0) (mK (.int 1)))) oN)) (aa (aW uI (mV 4) (mK (.int 1))) ao))))) (g:=fV 2 (a9 (gN 0) (a9 (gN 1) eE))) (g2:=gN 2) (t:=ko (eM (j+1))) (t2:=kq (eM (j+1))) (m:=ku (eM (j+1))) (js:=[none,none,none,ar 0,ar 1]) (ρ:=[ar (Sq b us),ar (.int ((k+1:Nat):Int))])
   (λρ=>∃x y z,ρ=[x,y,z,ar (Sq b us),ar (.int ((k+1:Nat):Int))]) (λp ρ=>∃z,ρ=[ar (.int (p.2:Int)),ar p.1,z,ar (Sq b us),ar (.int ((k+1:Nat):Int))]) (λp=>gn k (us.drop (p.2+1))) (λ_ _=>cn) (λp c=>D.tup (p.1::c))
   (by cases b<;>rfl) (by rw[List.length_zipIdx];exact hl) ⟨none,none,none,rfl⟩ (λp ρ ⟨z,h⟩=>⟨_,_,z,h⟩)
   (λp W ρ Y=>by
    obtain⟨x,y,z,rfl⟩:=Y;have T:=mj (b:=b) k j (us.drop (p.2+1)) (by omega) (by omega) (Nv (Z k (Nq _) _) (by decide)) (λi Q=>Z i (by omega) _) (by rw[O9];omega) (Ax _ us hc);have hd:=Ay (b:=b) (us:=us) (e:=mV 3) (e2:=aW cy (mV 0) (mK (.int 1))) (i:=p.2+1) (ρ:=[ar (.int (p.2:Int)),ar p.1,z,ar (Sq b us),ar (.int ((k+1:Nat):Int))]) rfl ((cg (x:=.int (p.2:Int)) (y:=.int 1) rfl rfl).trans rfl) hl hc;have hs:aW uI (mV 4) (mK (.int 1)) [ar (.int (p.2:Int)),ar p.1,z,ar (Sq b us),ar (.int ((k+1:Nat):Int))]=a_ (.int (k:Int)):=(cg (x:=.int ((k+1:Nat):Int)) (y:=.int 1) rfl rfl).trans (by show(a_ (D.int (((k+1:Nat):Int) - 1)):M D)=_;rw[show(((k+1:Nat):Int) - 1)=(k:Int) by omega])
    refine⟨[ar (.int (p.2:Int)),ar p.1,z,ar (Sq b us),ar (.int ((k+1:Nat):Int))],rfl,rfl,⟨z,rfl⟩,?_,Nv (qx k _) (Z k (Nq _) _)⟩;unfold bX;rw[kA ((call2 hd hs).trans T),aj];rfl)
   (λp W c U ρ Y=>by obtain⟨z,rfl⟩:=Y;have P:=(su U).1;exact⟨[ar (.int (p.2:Int)),ar p.1,ar (.tup c),ar (Sq b us),ar (.int ((k+1:Nat):Int))],rfl,⟨_,rfl⟩,rfl,λ_=>Gv (Jx rfl) rfl (by show 1+c.length<=100;omega)⟩)
  have he:(us.zipIdx.flatMap λp=>((gn k (us.drop (p.2+1))).filter λ_=>cn).map λc=>D.tup (p.1::c))=(gn (k+1) us).map D.tup:=by rw[Eh,Pw];congr 1;funext p;rw[cT,NK];rfl
  rw[he]at X;refine dj (o:=.ret (.fz ((gn (k+1) us).map D.tup))) ?_ rfl;show gH _ [ar (Sq b us),ar (.int ((k+1:Nat):Int))]=_;unfold gH;refine(a7 ((bU (b:=dt) (cU (x:=.int ((k+1:Nat):Int)) (y:=.int 0) rfl rfl (G8.trans (by rw[N7 (by omega)])))).trans (if_neg (by decide)))).trans (cL ?_);unfold aQ;rw[X];exact e9 (Jy hc) (by rw[Nl];exact Nv (qx _ _) (Nv W (by unfold lim;decide)))
theorem Az(s:List Int):∀rs:List (List Int),((rs.map oY).any λy=>f_ y (oY s))=decide (s∈rs)
 |[]=>by simp
 | r::rs=>by
  rw[NH,Rq,Az s rs];have:f_ (oY r) (oY s)=decide (r=s):=by unfold oY f_;exact sr r s
  rw[this,OU];simp only[y2,decide_eq_true_eq,gc];exact or_congr ⟨Eq.symm,Eq.symm⟩ Iff.rfl
theorem AA{s:List Int}{Z:List (List Int)}:inD (tupI s) (.tup (Z.map tupI))=a_ (.bl (decide (s∈Z))):=cO λS=>by
 unfold inD;have Y:gw S 60 (.tup (Z.map tupI))=ar (.tuple (Z.map oY)):=by show(mapP (gw S 59) (Z.map tupI)).map I0=_;rw[uc];rfl
 exact(qm (kC s) Y (r:=decide (s∈Z)) (by show ar (id ((Z.map oY).any λy=>f_ y (oY s)))=_;rw[Az];rfl)).mpr ⟨rfl,rfl⟩
theorem xo{p:Int}{t:List Int}:mT (.int p) (tupI t)=a_ (.bl (!gL p t)):=cO λS=>by unfold mT;exact(qm iS (kC t) (r:= !gL p t) (by show ar (!((t.map pa).any λy=>f_ y (.int p)))=_;rw[qu])).mpr ⟨rfl,rfl⟩
def tB(E:List (List Int))(a b:Int):Bool:=decide ([if b<a then b else a,if b>a then b else a]∈E)
theorem mm{ρ:aF}{e1 e2:TM}{a b:Int}(Y:e1 ρ=a_ (.int a))(Z:e2 ρ=a_ (.int b)):dq (aa (au minD (aa e1 (aa e2 ao))) (aa (au maxD (aa e1 (aa e2 ao))) ao)) ρ=a_ (tupI [if b<a then b else a,if b>a then b else a]):=by show(aa _ _ _>>=bP)=_;rw[bb ((call2 (F:=minD) Y Z).trans rfl) (bb ((call2 (F:=maxD) Y Z).trans rfl) (es:=ao) rfl),aj];unfold bP;exact if_pos sX
section
variable {n:Nat}{E:List (List Int)}{d e:D}
theorem sx{a b:Int}:cJ [aA n E,.int a,.int b]=a_ (.bl (tB E a b)):=
 dj (o:=.ret (.bl (tB E a b))) (cL ((cg (y:=.tup (E.map tupI)) (mm (a:=a) (b:=b) rfl rfl) rfl).trans AA)) rfl
theorem kD{a b:Int}:ba [aA n E,.int a,.int b]=a_ (.bl (tB E a b)):=
 dj (o:=.ret (.bl (tB E a b))) (cL ((cg (y:=.tup (E.map tupI)) (mm (a:=a) (b:=b) rfl rfl) rfl).trans AA)) rfl
theorem Li(n:Nat):bD 0 n=(d_ n).map λi:Nat=>D.int (i:Int):=by unfold bD;exact O6 λi _=>by rw[Pj]
theorem xp{m:TM}{ρ:aF}{n:Nat}(h:m ρ=a_ (.int n))(Z:n<=1000):lX m ρ=a_ ⟨(d_ n).map λi:Nat=>D.int (i:Int),.none⟩:=by have:=(oX h).trans (yV (by omega));rw[N5,Li]at this;exact this
theorem not_eq{t:gz}{b:Bool}{ρ:aF}(h:t ρ=a_ b):eA t ρ=a_ (!b):=by show(t ρ>>=_)=_;rw[h];rfl
theorem zb{α:Type}(g:α->Int)(l:List α):bY 0 (l.map λa=>D.int (g a))=true:=by have:=iU (l.map g);rw[NK]at this;exact this
theorem vA(Z:n<=14)(w:WebOk n E):cS [aA n E]=a_ .non:=by rw[D8 Ji (Gj w),if_pos (Gh (by omega) (by omega) w)]
theorem vB{us:List D}{ρ:aF}{e:TM}(h:e ρ=a_ (.fz us)):de dm e ρ=a_ (.int us.length):=jE h
theorem AB{t:gz}{m:cw}{ρ:aF}(h:t ρ=a_ dt):jQ t m d4 ρ=a_ (.nx ρ):=(bU h).trans (if_neg (by decide))
theorem nb{e:TM}{ρ:aF}(h:e ρ=a_ (.bl cn)):eA (bV e) ρ=a_ false:=not_eq (dX h)
theorem Ei(X:n<=14)(w:WebOk n E)(h:D1 d):iQ [aA n E,d]=if iD n d=cn then a_ .non else M.raise (.exc "NoPlace" []):=by
 have Z:=not_eq (dX (kA (e:=au dG (aa (aW bE (mV 0) (mK (.int 0))) (aa (mV 1) ao))) (ρ:=[ar (aA n E),ar d]) ((call2 (x:=.int n) (y:=d) rfl rfl).trans (vt h))));have Y:=a7 (n:=jQ (eA (bV (aQ (au dG (aa (aW bE (mV 0) (mK (.int 0))) (aa (mV 1) ao)))))) (yK "NoPlace" (aa (mK (.str "this is no place of the web")) ao)) d4) (Al (kA (e:=au cS (aa (mV 0) ao)) (ρ:=[ar (aA n E),ar d]) ((dW rfl).trans (vA X w))));by_cases hp:iD n d=cn
 ·rw[if_pos hp];exact vk (Y.trans ((bU Z).trans (if_neg (by rw[hp];decide)))) rfl
 ·rw[if_neg hp];exact j4 (Y.trans ((bU Z).trans ((if_pos (by simpa using hp)).trans rfl)))
theorem Ej{N k:Nat}{m:cw}{ds:List D}{S S1:az}{d:D}(Z:ds.length=k)(h:m (ds.map ar++ey (N - k) none) S=ar (.ok (.ret d),S1)):pS N k m ds S=ar (.ok d,S1):=by unfold pS;rw[if_pos Z];show(m _>>=outD) S=_;rw[aI h];rfl
theorem AC{m:TM}{ρ:aF}{us:List D}{S:az}(h:m ρ=bx us)(Z:us.length<=lim):bF (JT m) ρ S=ar (.ok (.ret (.lst S.length)),S++[us]):=by refine eP ?_;show oM (m ρ) S=_;rw[h,ua];exact cM Z
def bK(n:Nat)(E:List (List Int))(p:Nat):List Int:=((d_ n).filter λq:Nat=>tB E (p:Int) (q:Int)).map λq:Nat=>(q:Int)
theorem qy(p:Nat):(bK n E p).length<=n:=by unfold bK;rw[Nl];exact Nv (Ob _ _) (by rw[NS];exact Nq _)
theorem sy(p:Nat):((d_ n).filter λq:Nat=>tB E (p:Int) (q:Int)).map (λq:Nat=>D.int (q:Int))=(bK n E p).map D.int:=by unfold bK;rw[NK];rfl
theorem Jz{p:Nat}(Y:n<=14)(w:WebOk n E)(X:p<n):oW [aA n E,.int p]=a_ (.fz ((bK n E p).map D.int)):=by
 have Z:=Lg (α:=Nat) (l:=d_ n) (mk:=λi:Nat=>D.int (i:Int)) (f:=λq:Nat=>D.int (q:Int)) (mi:=lX (aW bE (mV 0) (mK (.int 0)))) (g:=gN 0) (t:=oU) (m:=oV) (js:=[none,ar 0,ar 1]) (ρ:=[ar (aA n E),ar (.int p)]) (λρ=>∃x,ρ=[x,ar (aA n E),ar (.int p)]) (λq:Nat=>tB E (p:Int) (q:Int)) (xp rfl (by omega)) (by rw[NS];unfold lim;omega) ⟨none,rfl⟩
  (λq hq ρ ⟨x,hρ⟩=>by subst hρ;exact⟨[ar (.int q),ar (aA n E),ar (.int p)],rfl,⟨_,rfl⟩,dX (kA ((iH rfl rfl rfl).trans sx)),λ_=>rfl⟩) (by rw[sy];exact iU _)
 rw[sy]at Z;refine vk (o:=.ret (.fz ((bK n E p).map D.int))) ?_ rfl;show vh [ar (aA n E),ar (.int p)]=_;unfold vh;refine(a7 (Al (kA ((call2 rfl rfl).trans ((Ei Y w (d:=.int p) rfl).trans (if_pos ?_)))))).trans (cL Z);show(decide (0<=(p:Int)) && decide ((p:Int)<n))=cn;rw[NI (by omega),NI (by omega)];rfl
end
theorem AD{α β:Type}(f:α->β)(k:Nat):∀l:List α,gn k (l.map f)=(gn k l).map (EA f):=by
 induction k with
 |zero=>intro l;rw[lH,lH];rfl
 | succ k ih=>
  intro l
  induction l with
  |nil=>rfl
  |cons x l ih2=>
   show(gn k (l.map f)).map (f x::·)++gn (k+1) (l.map f)=((gn k l).map (x::·)++gn (k+1) l).map (EA f);rw[ih,ih2,NX,NK,NK];rfl
theorem AE{k:Nat}{l:List Int}:(gn k (l.map D.int)).map D.tup=(gn k l).map tupI:=by rw[AD,NK];rfl
def Ha(E:List (List Int))(t:List Int):Bool:=tB E (t.getD 0 0) (t.getD 1 0)
def iE(E:List (List Int))(c:List Int):Bool:= !((gn 2 c).any (Ha E))
section
variable {n:Nat}{E:List (List Int)}
theorem Gw{l c:List Int}(h:c∈gn 2 l):∃a b,c=[a,b]:=by
 have:=(su h).1
 match c,this with
 |[a,b],_=>exact⟨a,b,rfl⟩
theorem xq{α:Type}{l:List α}{e:TM}{ρ:aF}{f:α->Bool}(h:e ρ=a_ (.fz (l.map λa=>D.bl (f a)))):de yO e ρ=a_ (.bl (l.any f)):=by
 have e1:(l.map λa=>D.bl (f a))=(l.map f).map D.bl:=by rw[NK];rfl
 rw[e1]at h;refine(jE h).trans (Jb.trans ?_);rw[List.any_map];rfl
theorem notM{e:TM}{ρ:aF}{b:Bool}(h:e ρ=a_ (.bl b)):FK e ρ=a_ (.bl (!b)):=by show(e ρ>>=_)=_;rw[h];rfl
theorem Gx{c:List Int}(P:c.length<=50):jD [aA n E,tupI c]=a_ (.bl (iE E c)):=by
 have X:c.length ^ 2<=50 ^ 2:=O7 P 2;have Z:=mj (b:=dt) 2 4 (c.map D.int) (by decide) (by decide) (by rw[Nl];exact Nv X (by decide)) (λi U=>by
  rw[Nl];have:i=0\/i=1:=by omega
  rcases this with rfl|rfl
  ·rw[Nat.pow_zero];decide
  ·rw[Nat.pow_one];omega) (by rw[Nl];omega) (iU c)
 rw[AE]at Z;have Z:bG [tupI c,.int ((2:Nat):Int)]=a_ (.fz ((gn 2 c).map tupI)):=Z;have S:(gn 2 c).length<=2500:=Nv (qx 2 c) (Nv X (by decide));have U:bX (aQ (au bG (aa (mV 1) (aa (mK (.int 2)) ao)))) [ar (aA n E),ar (tupI c)]=a_ ⟨(gn 2 c).map tupI,.none⟩:=by unfold bX;rw[kA (e:=au bG (aa (mV 1) (aa (mK (.int 2)) ao))) (ρ:=[ar (aA n E),ar (tupI c)]) ((call2 (x:=tupI c) (y:=.int ((2:Nat):Int)) rfl rfl).trans Z),aj];rfl
 have W:=kL (α:=List Int) (l:=gn 2 c) (mk:=tupI) (f:=λt=>D.bl (Ha E t)) (mi:=bX (aQ (au bG (aa (mV 1) (aa (mK (.int 2)) ao))))) (g:=fV 2 (a9 (gN 0) (a9 (gN 1) eE))) (t:=jh) (m:=ji) (js:=[none,none,ar 0]) (ρ:=[ar (aA n E),ar (tupI c)]) (λρ=>∃x y,ρ=[x,y,ar (aA n E)]) (λ_=>cn) U (by unfold lim;omega) ⟨none,none,rfl⟩
  (λt R ρ Y=>by
   obtain⟨x,y,rfl⟩:=Y;obtain⟨a,b,rfl⟩:=Gw R;exact⟨[ar (.int a),ar (.int b),ar (aA n E)],rfl,⟨_,_,rfl⟩,rfl,λ_=>kA ((iH rfl rfl rfl).trans sx)⟩) (by
  rw[cT];exact sv λx Q=>by obtain⟨t,_,rfl⟩:=NL.mp Q;rfl)
 rw[cT]at W;have T:=xq W;exact dj (o:=.ret (.bl (iE E c))) (cL (notM T)) rfl
def cV(n:Nat)(E:List (List Int)):List (List Int):=(d_ n).flatMap λp=>((gn 3 (bK n E p)).filter (iE E)).map ((p:Int)::·)
theorem AF{p k:Nat}(Z:n<=14)(Y:k<=3):(gn k (bK n E p)).length<=2744:=by
 refine Nv (qx k _) (Nv (O7 (Nv (qy p) Z) k) ?_);have:k=0\/k=1\/k=2\/k=3:=by omega
 rcases this with rfl|rfl|rfl|rfl<;>decide
theorem uj(Z:n<=14):(cV n E).length<=38416:=by
 have key:∀l:List Nat,(l.flatMap λp:Nat=>((gn 3 (bK n E p)).filter (iE E)).map ((p:Int)::·)).length<=l.length*2744:=λl=>by
  induction l with
  |nil=>exact NN _
  |cons p l ih=>
   rw[NY,Nn,Nl,NU,PL];have X:=Ob (iE E) (gn 3 (bK n E p));have Y:=AF (n:=n) (E:=E) (p:=p) (k:=3) Z (by decide);omega
 have:=key (d_ n);rw[NS]at this;unfold cV;omega
theorem El(Y:n<=14)(w:WebOk n E)(S:az):kz [aA n E] S=ar (.ok (.lst S.length),S++[(cV n E).map tupI]):=by
 have T:=y0 (α:=Nat) (β:=List Int) (l:=d_ n) (mk:=λi:Nat=>D.int (i:Int)) (mk2:=tupI) (mi:=lX (aW bE (mV 0) (mK (.int 0)))) (mi2:=bX (aQ (au bG (aa (aQ (au oW (aa (mV 2) (aa (mV 0) ao)))) (aa (mK (.int 3)) ao))))) (g:=gN 0) (g2:=gN 1) (t:=m8) (t2:=m9) (m:=ng) (js:=[none,none,ar 0]) (ρ:=[ar (aA n E)])
  (λρ=>∃x y,ρ=[x,y,ar (aA n E)]) (λp ρ=>∃y,ρ=[ar (.int (p:Int)),y,ar (aA n E)]) (λp=>gn 3 (bK n E p)) (λ_ c=>iE E c) (λp c=>tupI ((p:Int)::c))
  (xp rfl (by omega)) (by rw[NS];omega) ⟨none,none,rfl⟩ (λp ρ ⟨y,h⟩=>⟨_,y,h⟩)
  (λp X ρ Z=>by
   obtain⟨x,y,rfl⟩:=Z;have X:=NR.mp X;have R:=qy (n:=n) (E:=E) p;have W:=mj (b:=cn) 3 4 ((bK n E p).map D.int) (by decide) (by decide) (by rw[Nl];exact Nv (O7 (Nv R Y) 3) (by decide)) (λi Q=>by
    rw[Nl];refine Nv (O7 (Nv R Y) i) ?_;have:i=0\/i=1\/i=2:=by omega
    rcases this with rfl|rfl|rfl<;>decide) (by rw[Nl];omega) (iU _)
   rw[AE]at W;have W:bG [.fz ((bK n E p).map D.int),.int ((3:Nat):Int)]=a_ (.fz ((gn 3 (bK n E p)).map tupI)):=W;refine⟨[ar (.int (p:Int)),y,ar (aA n E)],rfl,rfl,⟨y,rfl⟩,?_,Nv (AF Y (by decide)) (by decide)⟩;unfold bX;rw[kA (e:=au bG (aa (aQ (au oW (aa (mV 2) (aa (mV 0) ao)))) (aa (mK (.int 3)) ao))) (ρ:=[ar (.int (p:Int)),y,ar (aA n E)]) ((call2 (y:=.int ((3:Nat):Int)) (kA ((call2 rfl rfl).trans (Jz Y w X))) rfl).trans W),aj];rfl)
  (λp X c U ρ Z=>by obtain⟨y,rfl⟩:=Z;have P:=(su U).1;exact⟨[ar (.int (p:Int)),ar (tupI c),ar (aA n E)],rfl,⟨_,rfl⟩,dX (kA ((call2 rfl rfl).trans (Gx (by omega)))),λ_=>Gv (Jx rfl) (ys:=c.map D.int) rfl (by rw[Nl];show 1+_<=100;omega)⟩)
 have he:((d_ n).flatMap λp=>((gn 3 (bK n E p)).filter λc=>iE E c).map λc=>tupI ((p:Int)::c))=(cV n E).map tupI:=by unfold cV;rw[Pw];congr 1;funext p;rw[NK];rfl
 rw[he]at T;refine Ej rfl ?_;show qr [ar (aA n E)] S=_;unfold qr;exact(N0 (a7 (Al (kA ((dW rfl).trans (vA Y w))))) S).trans (AC T (by rw[Nl];have:=uj (E:=E) Y;unfold lim;omega))
end
theorem vC(k:Nat):∀{l:List Int},l.Pairwise (· <·)->gn (k+1) l=l.flatMap λx=>(gn k (l.filter λy=>decide (y>x))).map (x::·)
 |[],_=>rfl
 |x::l,h=>by
  obtain⟨Y,X⟩:=Of.mp h;rw[NY];show(gn k l).map (x::·)++gn (k+1) l=_;rw[vC k X,Oo (by simp),List.filter_eq_self.mpr λy Z=>NI (Y y Z)];congr 1;rw[List.flatMap_def,List.flatMap_def];congr 1;refine O6 λy Z=>?_;rw[Oo (by have:=Y y Z;simp;omega)]
theorem AG{α:Type}:∀l:List α,gn 1 l=l.map λx=>[x]
 |[]=>rfl
 |x::l=>by
  show(gn 0 l).map (x::·)++gn 1 l=_;rw[AG l,lH];rfl
theorem pj{α β:Type}(p:α->Bool)(f:α->List β):∀l:List α,(l.filter p).flatMap f=l.flatMap λa=>if p a=cn then f a else []
 |[]=>rfl
 |a::l=>by
  rw[NY, <-pj p f l];cases h:p a with
  |true=>rw[OK h,NY];rfl
  |false=>rw[Oo (by rw[h];decide)];rfl
theorem gM{α β:Type}{f g:α->List β}:∀{l:List α},(∀a∈l,f a=g a)->l.flatMap f=l.flatMap g
 |[],_=>rfl
 |a::l,h=>by rw[NY,NY,h a (.head _),gM λb Z=>h b (.tail _ Z)]
section
variable {n:Nat}{E:List (List Int)}
def bw(E:List (List Int))(l:List Int)(b:Int):List Int:=l.filter λc=>decide (c>b) && !tB E b c
def fh(E:List (List Int))(a b:Int)(lt:List Int)(c:Int):List (List Int):=(bw E lt c).map λd=>[a,b,c,d]
theorem Em{b c d:Int}:iE E [b,c,d]=(!tB E b c && (!tB E b d && !tB E c d)):=by show(!(tB E b c||(tB E b d||(tB E c d||dt))))=_;cases tB E b c<;>cases tB E b d<;>cases tB E c d<;>rfl
theorem BZ{l:List Int}(Y:l.Pairwise (· <·))(a:Int):((gn 3 l).filter (iE E)).map (a::·)=l.flatMap λb=>(bw E l b).flatMap (fh E a b (bw E l b)):=by
 rw[vC 2 Y,QT,Pw];refine gM λb X=>?_;have hm:(l.filter λy=>decide (y>b)).Pairwise (· <·):=Y.sublist P5;have Z:bw E l b=(l.filter λy=>decide (y>b)).filter λc=> !tB E b c:=by unfold bw;rw[Ql];exact O4 λc _=>Bool.and_comm _ _
 rw[Z];generalize l.filter (λy=>decide (y>b))=m at hm;rw[vC 1 hm,Pw,QT,Pw,pj];refine gM λc W=>?_;rw[AG,NK,NK];show((((m.filter λy=>decide (y>c)).map λd=>[b,c,d])).filter (iE E)).map (a::·)=_;rw[RD,NK];cases h:tB E b c with
 | true=>
  rw[if_neg (by decide),List.filter_eq_nil_iff.mpr λd _=>?_]
  ·rfl
  ·show ¬ iE E [b,c,d]=cn;rw[Em,h,y1,OS];decide
 |false=>
  rw[if_pos (show(!dt)=cn from rfl)];unfold fh bw;rw[Ql,Ql];show EA (λd=>[a,b,c,d]) _=EA (λd=>[a,b,c,d]) _;congr 1;refine O4 λd _=>?_;show(iE E [b,c,d] && decide (d>c))=_;rw[Em,h];cases tB E b d<;>cases tB E c d<;>cases decide (d>c)<;>rfl
theorem En(p:Nat):(bK n E p).Pairwise (· <·):=by unfold bK;exact List.pairwise_map.mpr ((List.pairwise_lt_range (n:=n)).sublist P5 |>.imp λh=>by omega)
theorem Eo:cV n E=(d_ n).flatMap λp=>(bK n E p).flatMap λb=>(bw E (bK n E p) b).flatMap (fh E (p:Int) b (bw E (bK n E p) b)):=by unfold cV;exact gM λp _=>BZ (En p) (p:Int)
theorem Gy{S:az}{xs ys:List D}(Z:xs.length+ys.length<=1000000):kc (.lst S.length) [.fz ys] (S++[xs])=ar (.ok .non,S++[xs++ys]):=by show(getL S.length>>=λxs=>mx S.length (xs++ys)) (S++[xs])=_;rw[aI (cH (cD (S:=S) (xs:=xs))),kB (by rw[Nn];unfold lim;omega) (by simp)];rw[List.set_append_right _ _ (Nq _),Nat.sub_self];rfl
theorem qz(l:List Int)(b:Int):(bw E l b).length<=l.length:=Ob _ _
theorem sA{a b c:Int}{lt:List Int}:(fh E a b lt c).length<=lt.length:=by unfold fh;rw[Nl];exact qz _ _
theorem kE{α β:Type}{f:α->List β}{m:Nat}(h:∀a,(f a).length<=m):∀l:List α,(l.flatMap f).length<=l.length*m
 |[]=>NN _
 |a::l=>by
  rw[NY,Nn,NU,PL];have:=kE h l;have:=h a;omega
theorem xr{c b:Int}:nV (eS GZ (mV 0) (mV 1)) (eA (bV (aQ (au ba (aa (mV 2) (aa (mV 1) (aa (mV 0) ao))))))) [ar (.int c),ar (.int b),ar (aA n E)]=a_ (decide (c>b) && !tB E b c):=by
 have Z:eS GZ (mV 0) (mV 1) [ar (.int c),ar (.int b),ar (aA n E)]=a_ (decide (c>b)):=cU (x:=.int c) (y:=.int b) rfl rfl rfl;have Y:eA (bV (aQ (au ba (aa (mV 2) (aa (mV 1) (aa (mV 0) ao)))))) [ar (.int c),ar (.int b),ar (aA n E)]=a_ (!tB E b c):=not_eq (dX (kA ((iH rfl rfl rfl).trans kD)));show(eS GZ (mV 0) (mV 1) _>>=_)=_;rw[Z,aj];cases decide (c>b)with
 |true=>rw[if_pos rfl,OF];exact Y
 |false=>rw[if_neg (by decide)];rfl
theorem Ep{ρ:aF}{l:List Int}{b:Int}(U:l.length<=50)(X:mV 3 ρ=a_ (.fz (l.map D.int)))(Y:fS [none,ar 4,ar 0] ρ=[none,ar (.int b),ar (aA n E)]):aQ (bj (bX (mV 3)) (gN 0) fG fH [none,ar 4,ar 0]) ρ=a_ (.fz ((bw E l b).map D.int)):=
 kL (α:=Int) (l:=l) (mk:=D.int) (f:=D.int) (mi:=bX (mV 3)) (g:=gN 0) (t:=fG) (m:=fH) (js:=[none,ar 4,ar 0]) (ρ:=ρ) (λρ=>∃x,ρ=[x,ar (.int b),ar (aA n E)]) (λc=>decide (c>b) && !tB E b c) (by unfold bX;rw[X];rfl) (by unfold lim;omega) ⟨none,Y⟩
  (λc W ρ Z=>by obtain⟨x,rfl⟩:=Z;exact⟨[ar (.int c),ar (.int b),ar (aA n E)],rfl,⟨_,rfl⟩,xr,λ_=>rfl⟩) (iU _)
theorem MK{a b c d:Int}{e1 e2 e3 Z:TM}{ρ:aF}(U:e1 ρ=a_ (.int a))(Y:e2 ρ=a_ (.int b))(W:e3 ρ=a_ (.int c))(X:Z ρ=a_ (.int d)):dq (aS e1 (aS e2 (aS e3 (aS Z ao)))) ρ=a_ (tupI [a,b,c,d]):=by show(aa e1 (aa e2 (aa e3 (aa Z ao))) ρ>>=bP)=_;rw[bb U (bb Y (bb W (bb X (es:=ao) rfl))),aj];unfold bP;exact if_pos (by show 4<=lim;unfold lim;omega)
abbrev fi(n:Nat)(E:List (List Int))(q:Nat)(r:List (Option D)):aF:=ar (aA n E)::ar (.lst q)::r
theorem Lj{S:az}{a b c:Int}{lt:List Int}{x3:Option D}{acc:List (List Int)}(U:lt.length<=50)(W:acc.length<=900000):fI (fi n E S.length [ar (.int a),x3,ar (.int b),ar (.fz (lt.map D.int)),ar (.int c)]) (S++[acc.map tupI])=ar (.ok (.nx (fi n E S.length [ar (.int a),x3,ar (.int b),ar (.fz (lt.map D.int)),ar (.int c)])),S++[(acc++fh E a b lt c).map tupI]):=by
 have Y:=kL (α:=Int) (l:=lt) (mk:=D.int) (f:=λd=>tupI [a,b,c,d]) (mi:=bX (mV 5)) (g:=gN 0) (t:=iw) (m:=iy) (js:=[none,ar 6,ar 0,ar 2,ar 4]) (ρ:=fi n E S.length [ar (.int a),x3,ar (.int b),ar (.fz (lt.map D.int)),ar (.int c)]) (λρ=>∃x,ρ=[x,ar (.int c),ar (aA n E),ar (.int a),ar (.int b)]) (λd=>decide (d>c) && !tB E c d) rfl (by unfold lim;omega) ⟨none,rfl⟩
  (λd hd ρ Z=>by
   obtain⟨x,rfl⟩:=Z;refine⟨[ar (.int d),ar (.int c),ar (aA n E),ar (.int a),ar (.int b)],rfl,⟨_,rfl⟩,?_,λ_=>MK rfl rfl rfl rfl⟩;exact xr (c:=d) (b:=c)) (by
  have:=cY (fh E a b lt c);unfold fh bw at this;rw[NK]at this;exact this)
 rw[show((lt.filter λd=>decide (d>c) && !tB E c d).map λd=>tupI [a,b,c,d])=(fh E a b lt c).map tupI by unfold fh bw;rw[NK];rfl]at Y;have X:=sA (E:=E) (a:=a) (b:=b) (c:=c) (lt:=lt);refine mG (x:=.non) ((mH (x:=.lst S.length) rfl rfl (N0 Y _)).trans ((Gy (by rw[Nl,Nl];omega)).trans ?_));rw[NX]
theorem AH{S:az}{its:List D}{a b:Int}{lt:List Int}{x3:Option D}(X:lt.length<=50):∀(post:List Int) (acc:List (List Int)) (x6:Option D),acc.length+post.length*50<=900000->∃Z,dC ⟨its,.none⟩ (gN 6) fI (post.map D.int) (fi n E S.length [ar (.int a),x3,ar (.int b),ar (.fz (lt.map D.int)),x6]) (S++[acc.map tupI])=ar (.ok (.nx (fi n E S.length [ar (.int a),x3,ar (.int b),ar (.fz (lt.map D.int)),Z])),S++[(acc++post.flatMap (fh E a b lt)).map tupI])
 |[],acc,x6,_=>⟨x6,by rw[Ov,Px,NT,da];rfl⟩
 |c::post,acc,x6,h=>by
  have h:acc.length+(post.length+1)*50<=900000:=h;have W:=sA (E:=E) (a:=a) (b:=b) (c:=c) (lt:=lt);obtain⟨Z,Y⟩:=AH (S:=S) (its:=its) (a:=a) (b:=b) (x3:=x3) X post (acc++fh E a b lt c) (ar (.int c)) (by rw[Nn];omega);refine⟨Z,?_⟩;rw[ND]at Y;rw[NY];exact(d6 rfl (Lj X (by omega))).trans Y
theorem uk{a b:Int}{lt:List Int}(Z:List Int)(X:Z.length<=14)(Y:lt.length<=14):(Z.flatMap (fh E a b lt)).length<=196:=by have:=kE (f:=fh E a b lt) (m:=14) (λc=>Nv sA Y) Z;omega
theorem Lk{S:az}{a b:Int}{l:List Int}{x5 x6:Option D}{acc:List (List Int)}(U:l.length<=14)(W:acc.length<=800000):∃y5 Z,dR (fi n E S.length [ar (.int a),ar (.fz (l.map D.int)),ar (.int b),x5,x6]) (S++[acc.map tupI])=ar (.ok (.nx (fi n E S.length [ar (.int a),ar (.fz (l.map D.int)),ar (.int b),y5,Z])),S++[(acc++(bw E l b).flatMap (fh E a b (bw E l b))).map tupI]):=by have X:=Ep (n:=n) (E:=E) (ρ:=fi n E S.length [ar (.int a),ar (.fz (l.map D.int)),ar (.int b),x5,x6]) (l:=l) (b:=b) (by omega) rfl rfl;have Y:=qz (E:=E) l b;obtain⟨Z,hf⟩:=AH (n:=n) (E:=E) (S:=S) (its:=(bw E l b).map D.int) (a:=a) (b:=b) (lt:=bw E l b) (x3:=ar (.fz (l.map D.int))) (by omega) (bw E l b) acc x6 (by omega);refine⟨ar (.fz ((bw E l b).map D.int)),Z,?_⟩;unfold dR;exact(N0 (a7 (iB X)) _).trans (gI (its:=(bw E l b).map D.int) rfl hf)
theorem AI{S:az}{its:List D}{a:Int}{l:List Int}(U:l.length<=14):∀(post:List Int) (acc:List (List Int)) (x4 x5 x6:Option D),acc.length+post.length*196<=700000->∃Y Z X,dC ⟨its,.none⟩ (gN 4) dR (post.map D.int) (fi n E S.length [ar (.int a),ar (.fz (l.map D.int)),x4,x5,x6]) (S++[acc.map tupI])=ar (.ok (.nx (fi n E S.length [ar (.int a),ar (.fz (l.map D.int)),Y,Z,X])),S++[(acc++post.flatMap λb=>(bw E l b).flatMap (fh E a b (bw E l b))).map tupI])
 |[],acc,x4,x5,x6,_=>⟨x4,x5,x6,by rw[Ov,Px,NT,da];rfl⟩
 |b::post,acc,x4,x5,x6,h=>by
  have h:acc.length+(post.length+1)*196<=700000:=h;have T:=qz (E:=E) l b;have P:=uk (E:=E) (a:=a) (b:=b) (lt:=bw E l b) (bw E l b) (by omega) (by omega);obtain⟨R,Q,e⟩:=Lk (n:=n) (E:=E) (S:=S) (a:=a) (b:=b) (x5:=x5) (x6:=x6) (acc:=acc) U (by omega);obtain⟨Y,Z,X,W⟩:=AI (S:=S) (its:=its) (a:=a) U post (acc++(bw E l b).flatMap (fh E a b (bw E l b))) (ar (.int b)) R Q (by rw[Nn];omega);refine⟨Y,Z,X,?_⟩;rw[ND]at W;rw[NY];exact(d6 rfl e).trans W
theorem Gz{ρ:aF}{p:Nat}(T:n<=14)(W:mV 0 ρ=a_ (aA n E))(X:fS [none,ar 0,ar 2] ρ=[none,ar (aA n E),ar (.int p)]):aQ (bj (lX (aW bE (mV 0) (mK (.int 0)))) (gN 0) fE fF [none,ar 0,ar 2]) ρ=a_ (.fz ((bK n E p).map D.int)):=by
 have Y:=kL (α:=Nat) (l:=d_ n) (mk:=λi:Nat=>D.int (i:Int)) (f:=λq:Nat=>D.int (q:Int)) (mi:=lX (aW bE (mV 0) (mK (.int 0)))) (g:=gN 0) (t:=fE) (m:=fF) (js:=[none,ar 0,ar 2]) (ρ:=ρ) (λρ=>∃x,ρ=[x,ar (aA n E),ar (.int p)]) (λq:Nat=>tB E (p:Int) (q:Int)) (xp ((cg W (y:=.int 0) rfl).trans rfl) (by omega)) (by rw[NS];unfold lim;omega) ⟨none,X⟩
  (λq U ρ Z=>by obtain⟨x,rfl⟩:=Z;exact⟨[ar (.int q),ar (aA n E),ar (.int p)],rfl,⟨_,rfl⟩,dX (kA ((iH rfl rfl rfl).trans kD)),λ_=>rfl⟩) (zb (λq:Nat=>(q:Int)) _)
 rw[sy]at Y;exact Y
theorem JA{p:Nat}(Z:n<=14):((bK n E p).flatMap λb=>(bw E (bK n E p) b).flatMap (fh E (p:Int) b (bw E (bK n E p) b))).length<=2744:=by
 have Y:=qy (n:=n) (E:=E) p;have:=kE (f:=λb=>(bw E (bK n E p) b).flatMap (fh E (p:Int) b (bw E (bK n E p) b))) (m:=196) (λb=>by have:=qz (E:=E) (bK n E p) b;exact uk _ (by omega) (by omega)) (bK n E p)
 omega
theorem AJ{S:az}{its:List D}(X:n<=14):∀(post:List Nat) (acc:List (List Int)) (x2 x3 x4 x5 x6:Option D),acc.length+post.length*2744<=600000->∃U Y W Z T,dC ⟨its,.none⟩ (gN 2) dU (post.map λi:Nat=>D.int (i:Int)) (fi n E S.length [x2,x3,x4,x5,x6]) (S++[acc.map tupI])=ar (.ok (.nx (fi n E S.length [U,Y,W,Z,T])),S++[(acc++post.flatMap λp=>(bK n E p).flatMap λb=>(bw E (bK n E p) b).flatMap (fh E (p:Int) b (bw E (bK n E p) b))).map tupI])
 |[],acc,x2,x3,x4,x5,x6,_=>⟨x2,x3,x4,x5,x6,by rw[Ov,Px,NT,da];rfl⟩
 | p::post,acc,x2,x3,x4,x5,x6,h=>by
  have h:acc.length+(post.length+1)*2744<=600000:=h;have K:=qy (n:=n) (E:=E) p;have L:=JA (n:=n) (E:=E) (p:=p) X;have N:=Gz (n:=n) (E:=E) (p:=p) (ρ:=fi n E S.length [ar (.int (p:Int)),x3,x4,x5,x6]) X rfl rfl;obtain⟨P,O,Q,hf⟩:=AI (n:=n) (E:=E) (S:=S) (its:=(bK n E p).map D.int) (a:=(p:Int)) (l:=bK n E p) (by omega) (bK n E p) acc x4 x5 x6 (by omega);have e:dU (fi n E S.length [ar (.int (p:Int)),x3,x4,x5,x6]) (S++[acc.map tupI])=ar (.ok (.nx (fi n E S.length [ar (.int (p:Int)),ar (.fz ((bK n E p).map D.int)),P,O,Q])),S++[(acc++(bK n E p).flatMap λb=>(bw E (bK n E p) b).flatMap (fh E (p:Int) b (bw E (bK n E p) b))).map tupI]):=by unfold dU;exact(N0 (a7 (iB N)) _).trans (gI (its:=(bK n E p).map D.int) rfl hf)
  obtain⟨U,Y,W,Z,T,R⟩:=AJ (S:=S) (its:=its) X post (acc++(bK n E p).flatMap λb=>(bw E (bK n E p) b).flatMap (fh E (p:Int) b (bw E (bK n E p) b))) (ar (.int (p:Int))) (ar (.fz ((bK n E p).map D.int))) P O Q (by rw[Nn];omega);refine⟨U,Y,W,Z,T,?_⟩;rw[ND]at R;rw[NY];exact(d6 rfl e).trans R
theorem Er(Y:n<=14):kK (dI [aA n E])=a_ (.fz ((cV n E).map tupI)):=by
 refine nX (cY _) λS=>?_;obtain⟨T,X,U,W,R,hf⟩:=AJ (n:=n) (E:=E) (S:=S) (its:=(d_ n).map λi:Nat=>D.int (i:Int)) Y (d_ n) [] none none none none none (by rw[NS];show 0+n*2744<=600000;omega);rw[O5, <-Eo]at hf;have Z:dI [aA n E] S=ar (.ok (.lst S.length),S++[(cV n E).map tupI]):=by refine eQ (o:=.ret (.lst S.length)) ?_ rfl;show iP [ar (aA n E),none,none,none,none,none,none] S=_;unfold iP;exact(aL (ρ':=fi n E S.length [none,none,none,none,none]) (bJ (jk (ys:=[]) (S1:=S) rfl (NN _)))).trans ((aL (gI (xp rfl (by omega)) hf)).trans (eP (x:=.lst S.length) rfl))
 exact⟨_,_,Z,[(cV n E).map tupI],S.length,rfl,rfl,by simp,Nq _⟩
def j6(n:Nat)(b:Int):List Int:=(n3 (b.toNat+1) (n - (b.toNat+1))).map λc:Nat=>(c:Int)
theorem nj{b:Int}:(j6 n b).length<=n:=by unfold j6;rw[Nl,PF];omega
theorem zd{m Z:TM}{ρ:aF}{b:Int}(W:n<=100)(T:0<=b)(U:b<n)(X:m ρ=a_ (.int (b+1)))(Y:Z ρ=a_ (.int n)):Cg m Z ρ=a_ ⟨(j6 n b).map D.int,.none⟩:=by refine(vj X Y).trans ((Ge (i:=b+1) (j:=n) (by omega)).trans ?_);congr 2;unfold j6 bD;rw[NK,Pi,NK,show((n:Int) - (b+1)).toNat=n - (b.toNat+1) by omega];refine O6 λi _=>?_;show D.int (b+1+(i:Int))=D.int (((b.toNat+1+i:Nat)):Int);congr 1;omega
def sC(E:List (List Int))(s:List Int)(p:Int):Bool:=s.all λo=>tB E o p
theorem zh{α:Type}(f:α->Bool)(l:List α):bY 0 (l.map λa=>D.bl (f a))=true:=sv λx Z=>by obtain⟨t,_,rfl⟩:=NL.mp Z;rfl
theorem Es{α:Type}{l:List α}{e:TM}{ρ:aF}{f:α->Bool}(h:e ρ=a_ (.fz (l.map λa=>D.bl (f a)))):de sS e ρ=a_ (.bl (l.all f)):=by
 have e1:(l.map λa=>D.bl (f a))=(l.map f).map D.bl:=by rw[NK];rfl
 rw[e1]at h;refine(jE h).trans (sd.trans ?_);rw[QA];rfl
theorem GA{s:List Int}{p:Int}(W:s.length<=100):qp [aA n E,tupI s,.int p]=a_ (.bl (sC E s p)):=by
 have Y:=kL (α:=Int) (l:=s) (mk:=D.int) (f:=λo=>D.bl (tB E o p)) (mi:=bX (mV 1)) (g:=gN 0) (t:=m5) (m:=m7) (js:=[none,ar 0,ar 2]) (ρ:=[ar (aA n E),ar (tupI s),ar (.int p)]) (λρ=>∃x,ρ=[x,ar (aA n E),ar (.int p)]) (λ_=>cn) rfl (by unfold lim;omega) ⟨none,rfl⟩
  (λo X ρ Z=>by obtain⟨x,rfl⟩:=Z;exact⟨[ar (.int o),ar (aA n E),ar (.int p)],rfl,⟨_,rfl⟩,rfl,λ_=>kA ((iH rfl rfl rfl).trans sx)⟩) (by rw[cT];exact zh _ _)
 rw[cT]at Y;exact dj (o:=.ret (.bl (sC E s p))) (cL (Es Y)) rfl
def ez(n:Nat)(E:List (List Int)):List (List Int):=E.flatMap λt=>((j6 n (t.getD 1 0)).filter (sC E t)).map λp=>t++[p]
theorem Et(W:n<=14)(w:WebOk n E):jg [aA n E]=a_ (.fz ((ez n E).map tupI)):=by
 have hf:=w.few;have X:=y0 (α:=List Int) (β:=Int) (l:=E) (mk:=tupI) (mk2:=D.int) (mi:=bX (aW bE (mV 0) (mK (.int 1)))) (mi2:=Cg (aW cy (aW bE (mV 0) (mK (.int 1))) (mK (.int 1))) (aW bE (mV 2) (mK (.int 0)))) (g:=gN 0) (g2:=gN 1) (t:=lA) (t2:=lB) (m:=lC) (js:=[none,none,ar 0]) (ρ:=[ar (aA n E)])
  (λρ=>∃x y,ρ=[x,y,ar (aA n E)]) (λt ρ=>∃y,ρ=[ar (tupI t),y,ar (aA n E)]) (λt=>j6 n (t.getD 1 0)) (λt p=>sC E t p) (λt p=>tupI (t++[p]))
  rfl (by omega) ⟨none,none,rfl⟩ (λt ρ ⟨y,h⟩=>⟨_,y,h⟩)
  (λt Y ρ Z=>by obtain⟨x,y,rfl⟩:=Z;obtain⟨a,b,rfl,a0,ab,bn⟩:=w.el t Y;exact⟨[ar (tupI [a,b]),y,ar (aA n E)],rfl,rfl,⟨y,rfl⟩,zd (by omega) (by show 0<=b;omega) bn ((cg (x:=.int b) (y:=.int 1) rfl rfl).trans rfl) rfl,Nv nj (by omega)⟩)
  (λt Y p U ρ Z=>by obtain⟨y,rfl⟩:=Z;obtain⟨a,b,rfl,a0,ab,bn⟩:=w.el t Y;exact⟨[ar (tupI [a,b]),ar (.int p),ar (aA n E)],rfl,⟨_,rfl⟩,dX (kA ((iH rfl rfl rfl).trans (GA (by show 2<=100;decide)))),λ_=>Gv (e1:=mV 0) (e2:=dq (aa (mV 1) ao)) (ρ:=[ar (tupI [a,b]),ar (.int p),ar (aA n E)]) (xs:=[D.int a,.int b]) (ys:=[.int p]) rfl (Jx rfl) (by show 2+1<=100;decide)⟩)
 have he:(E.flatMap λt=>((j6 n (t.getD 1 0)).filter λp=>sC E t p).map λp=>tupI (t++[p]))=(ez n E).map tupI:=by unfold ez;rw[Pw];congr 1;funext t;rw[NK];rfl
 rw[he]at X;have T:(ez n E).length<=91*14:=by
  have:=kE (f:=λt=>((j6 n (t.getD 1 0)).filter (sC E t)).map λp=>t++[p]) (m:=14) (λt=>by rw[Nl];exact Nv (Ob _ _) (Nv nj W)) E
  unfold ez;omega
 refine dj (o:=.ret (.fz ((ez n E).map tupI))) (cL ?_) rfl;unfold aQ;exact(QL kK X).trans (e9 (cY _) (by rw[Nl];unfold lim;omega))
def nk(E:List (List Int))(t:List Int)(p:Int):Nat:=t.countP λo=>tB E o p
def pO(E:List (List Int))(t:List Int)(p:Int):Bool:= !gL p t && (decide (nk E t p=1)||decide (nk E t p=3))
theorem ML{i:Int}:inD (.int i) (.tup [.int 1,.int 3])=a_ (.bl (decide (i=1)||decide (i=3))):=by
 refine(Aw (p:=i) (t:=[1,3])).trans ?_;congr 2;show((1:Int)==i||((3:Int)==i||dt))=_;rw[Bool.or_false];congr 1
 ·rw[OU,P9,NV];omega
 ·rw[OU,P9,NV];omega
theorem GC{t:List Int}{p:Int}(T:t.length<=100):jz [aA n E,tupI t,.int p]=a_ (.bl (pO E t p)):=by
 have Z:eS inD (mV 2) (mV 1) [ar (aA n E),ar (tupI t),ar (.int p),none]=a_ (gL p t):=cU (x:=.int p) (y:=tupI t) rfl rfl Aw;refine dj (o:=.ret (.bl (pO E t p))) ?_ rfl;show jx [ar (aA n E),ar (tupI t),ar (.int p),none]=_;unfold jx;cases h:gL p t with
 |true=>
  rw[h]at Z;rw[show pO E t p=dt by unfold pO;rw[h];rfl];exact ig ((bU Z).trans ((if_pos rfl).trans rfl))
 | false=>
  rw[h]at Z;have X:=kL (α:=Int) (l:=t) (mk:=D.int) (f:=D.int) (mi:=bX (mV 1)) (g:=gN 0) (t:=f7) (m:=f9) (js:=[none,ar 0,ar 2]) (ρ:=[ar (aA n E),ar (tupI t),ar (.int p),none]) (λρ=>∃x,ρ=[x,ar (aA n E),ar (.int p)]) (λo=>tB E o p) rfl (by unfold lim;omega) ⟨none,rfl⟩
   (λo U ρ Y=>by obtain⟨x,rfl⟩:=Y;exact⟨[ar (.int o),ar (aA n E),ar (.int p)],rfl,⟨_,rfl⟩,dX (kA ((iH rfl rfl rfl).trans sx)),λ_=>rfl⟩) (iU _)
  have hlen:de dm (aQ (bj (bX (mV 1)) (gN 0) f7 f9 [none,ar 0,ar 2])) [ar (aA n E),ar (tupI t),ar (.int p),none]=a_ (.int (nk E t p:Int)):=(vB X).trans (by unfold nk;rw[Nl,PH]);have W:dq (aa (mK (.int 1)) (aa (mK (.int 3)) ao)) [ar (aA n E),ar (tupI t),ar (.int p),ar (.int (nk E t p:Int))]=a_ (.tup [.int 1,.int 3]):=by show(aa _ _ _>>=bP)=_;rw[bb (e:=mK (.int 1)) (x:=.int 1) rfl (bb (e:=mK (.int 3)) (x:=.int 3) rfl (es:=ao) rfl),aj];unfold bP;exact if_pos sX
  refine(a7 ((bU Z).trans (if_neg (by decide)))).trans ((a7 (iB hlen)).trans (cL ((cg (x:=.int (nk E t p:Int)) rfl W).trans (ML.trans ?_))));unfold pO;rw[h,Bool.not_false,OF];congr 2;congr 1
  ·exact P2.mpr (by omega)
  ·exact P2.mpr (by omega)
def pk(n:Nat)(E:List (List Int))(t:List Int):Bool:=(d_ n).any λp:Nat=>pO E t (p:Int)
def ff(n:Nat)(E:List (List Int)):List (List Int):=(ez n E).filter (pk n E)
theorem xt(w:WebOk n E){t:List Int}(h:t∈ez n E):∃a b c:Int,t=[a,b,c]/\0<=a/\a<b/\b<c/\c<n:=by unfold ez at h;obtain⟨s,hs,h⟩:=QE.mp h;obtain⟨p,Z,rfl⟩:=NL.mp h;obtain⟨a,b,rfl,a0,ab,bn⟩:=w.el s hs;have Z:=(OE.mp Z).1;unfold j6 at Z;obtain⟨c,Y,rfl⟩:=NL.mp Z;rw[OP]at Y;have Y:b.toNat+1<=c/\c<b.toNat+1+(n - (b.toNat+1)):=Y;exact⟨a,b,c,rfl,a0,ab,by omega,by omega⟩
theorem sD(Z:n<=14)(w:WebOk n E):(ez n E).length<=1274:=by
 have hf:=w.few;have:=kE (f:=λt=>((j6 n (t.getD 1 0)).filter (sC E t)).map λp=>t++[p]) (m:=14) (λt=>by rw[Nl];exact Nv (Ob _ _) (Nv nj Z)) E
 unfold ez;omega
theorem Eu(X:n<=14)(w:WebOk n E):bj (bX (aQ (au jg (aa (mV 0) ao)))) (gN 0) fK fL [none,ar 0] [ar (aA n E)]=bx ((ff n E).map tupI):=by
 have W:bX (aQ (au jg (aa (mV 0) ao))) [ar (aA n E)]=a_ ⟨(ez n E).map tupI,.none⟩:=by unfold bX;rw[kA (e:=au jg (aa (mV 0) ao)) (ρ:=[ar (aA n E)]) ((dW rfl).trans (Et X w)),aj];rfl
 have S:=sD X w;exact yZ (α:=List Int) (l:=ez n E) (mk:=tupI) (f:=tupI) (g:=gN 0) (t:=fK) (m:=fL) (js:=[none,ar 0]) (ρ:=[ar (aA n E)]) (λρ=>∃x,ρ=[x,ar (aA n E)]) (pk n E) W (by unfold lim;omega) ⟨none,rfl⟩
  (λt U ρ Z=>by
   obtain⟨x,rfl⟩:=Z;refine⟨[ar (tupI t),ar (aA n E)],rfl,⟨_,rfl⟩,dX ?_,λ_=>rfl⟩;obtain⟨a,b,c,rfl,_⟩:=xt w U;have Y:=kL (α:=Nat) (l:=d_ n) (mk:=λi:Nat=>D.int (i:Int)) (f:=λp:Nat=>D.bl (pO E [a,b,c] (p:Int))) (mi:=lX (aW bE (mV 1) (mK (.int 0)))) (g:=gN 0) (t:=iz) (m:=iA) (js:=[none,ar 1,ar 0]) (ρ:=[ar (tupI [a,b,c]),ar (aA n E)]) (λρ=>∃x,ρ=[x,ar (aA n E),ar (tupI [a,b,c])]) (λ_=>cn) (xp rfl (by omega)) (by rw[NS];unfold lim;omega) ⟨none,rfl⟩
    (λp T ρ Z=>by obtain⟨x,rfl⟩:=Z;exact⟨[ar (.int (p:Int)),ar (aA n E),ar (tupI [a,b,c])],rfl,⟨_,rfl⟩,rfl,λ_=>kA ((iH rfl rfl rfl).trans (GC (by show 3<=100;decide)))⟩) (by rw[cT];exact zh _ _)
   rw[cT]at Y;exact xq Y)
theorem qA(Z:n<=14)(w:WebOk n E):(ff n E).length<=1274:=Nv (Ob _ _) (sD Z w)
theorem Ew(Z:n<=14)(w:WebOk n E)(S:az):bf [aA n E] S=ar (.ok (.lst S.length),S++[(ff n E).map tupI]):=by refine Ej rfl ?_;show iR [ar (aA n E)] S=_;unfold iR;exact(N0 (a7 (Al (kA ((dW rfl).trans (vA Z w))))) S).trans (AC (Eu Z w) (by rw[Nl];have:=qA Z w;unfold lim;omega))
theorem Ll{a b:Int}(h:a<b):tB E a b=decide ([a,b]∈E):=by unfold tB;rw[if_neg (by omega),if_pos (by omega)]
theorem Ey(W:n<=14)(w:WebOk n E):E=(gJ n).filter λt=>decide (t∈E):=by
 have X:=(oZ W).1;have Y:∀{l:List (List Int)},l.Pairwise (λa b=>HT.lexLt a b=cn)->l.Nodup:=λh=>h.imp λh e=>by rw[e,kd]at h;cases h
 have Z:((gJ n).filter λt=>decide (t∈E)).Pairwise λa b=>HT.lexLt a b=true:=X.sublist P5;refine lV ((PX (Y w.ris) (Y Z)).mpr λt=>?_) (w.ris.imp λh=>nS h) (Z.imp λh=>nS h);rw[OE,NV];refine⟨λh=>⟨?_,h⟩,λh=>h.2⟩;obtain⟨a,b,rfl,a0,ab,bn⟩:=w.el t h;exact BY a0 ab bn
theorem AK{α β:Type}(p:α->Bool)(f:α->β):∀l:List α,(l.flatMap λa=>if p a=cn then [f a]else [])=(l.filter p).map f
 |[]=>rfl
 |a::l=>by
  rw[NY,AK p f l];cases h:p a with
  |true=>rw[OK h];rfl
  |false=>rw[Oo (by rw[h];decide)];rfl
def c3(E:List (List Int))(a b c:Int):Bool:=tB E a b && (tB E a c && tB E b c)
def kF(n:Nat)(E:List (List Int))(a b c:Int):List (List Int):=if (c3 E a b c && pk n E [a,b,c])=cn then [[a,b,c]]else []
theorem JB(W:n<=14)(w:WebOk n E):ff n E=(d_ n).flatMap λa:Nat=>(j6 n (a:Int)).flatMap λb=>(j6 n b).flatMap (kF n E (a:Int) b):=by
 have T:ff n E=E.flatMap λt=>(((j6 n (t.getD 1 0)).filter (sC E t)).map λp=>t++[p]).filter (pk n E):=by unfold ff ez;rw[QT]
 rw[T];have X:(E.flatMap λt=>(((j6 n (t.getD 1 0)).filter (sC E t)).map λp=>t++[p]).filter (pk n E))=((gJ n).filter λt=>decide (t∈E)).flatMap λt=>(((j6 n (t.getD 1 0)).filter (sC E t)).map λp=>t++[p]).filter (pk n E):=by rw[<-Ey W w]
 rw[X,pj];unfold gJ;rw[List.flatMap_assoc];refine gM λa Y=>?_;have Y:=NR.mp Y;unfold pX;rw[List.flatMap_map,show j6 n (a:Int)=(n3 (a+1) (n - (a+1))).map λc:Nat=>(c:Int) by unfold j6;rw[N5],List.flatMap_map];refine gM λb Z=>?_;have Z:=OP.mp Z;show(if decide ([(a:Int),(b:Int)]∈E)=cn then (((j6 n (b:Int)).filter (sC E [(a:Int),(b:Int)])).map λp=>[(a:Int),(b:Int)]++[p]).filter (pk n E)else [])=(j6 n (b:Int)).flatMap (kF n E (a:Int) (b:Int));have U:tB E (a:Int) (b:Int)=decide ([(a:Int),(b:Int)]∈E):=Ll (by omega);unfold kF;rw[AK (λc=>c3 E (a:Int) (b:Int) c && pk n E [(a:Int),(b:Int),c]) (λc=>[(a:Int),(b:Int),c]), <-U];cases h:tB E (a:Int) (b:Int)with
 | false=>
  rw[if_neg (by decide),List.filter_eq_nil_iff.mpr λc _=>?_]
  ·rfl
  ·unfold c3;rw[h,OS,OS];decide
 |true=>
  rw[if_pos rfl,RD,Ql];show EA (λc=>[(a:Int),(b:Int),c]) _=EA (λc=>[(a:Int),(b:Int),c]) _;congr 1;refine O4 λc _=>?_;show(pk n E [(a:Int),(b:Int),c] && (tB E (a:Int) c && (tB E (b:Int) c && cn)))=(c3 E (a:Int) (b:Int) c && pk n E [(a:Int),(b:Int),c]);unfold c3;rw[h,OF,Bool.and_true,Bool.and_comm]
theorem Ez{bs:List Bool}:kj (.fz (bs.map D.bl)) [.bl cn]=a_ (.int ((bs.countP id:Nat):Int)):=by
 funext S;have Y:gw S 60 (.fz (bs.map D.bl))=ar (.list (bs.map SY)):=by
  show(mapP (gw S 59) (bs.map D.bl)).map wG=_;have:mapP (gw S 59) (bs.map D.bl)=ar (bs.map SY):=by
   induction bs with
   |nil=>rfl
   |cons b bs ih=>
    show(match gw S 59 (.bl b),mapP (gw S 59) (bs.map D.bl)with|some p,ar ps=>ar (p::ps)|_,_=>none)=_;rw[ih];rfl
  rw[this];rfl
 have Z:gw S 60 (.bl cn)=ar (.bool cn):=rfl;unfold kj;dsimp only;rw[Y,Z];dsimp only;rw[Qk];have:bs.countP ((λy=>f_ y (.bool cn))∘SY)=bs.countP id:=List.countP_congr λb _=>by show f_ (.bool b) (.bool cn)=cn↔b=cn;cases b<;>simp[f_]
 rw[this];rfl
theorem EB{i:Int}{l:List Int}:inD (.int i) (.fz (l.map D.int))=a_ (.bl (gL i l)):=cO λS=>by
 have Z:gw S 60 (.fz (l.map D.int))=ar (.list (l.map pa)):=by show(mapP (gw S 59) (l.map D.int)).map wG=_;rw[l9];rfl
 exact(qm iS Z (r:=gL i l) (by show ar (id ((l.map pa).any λy=>f_ y (.int i)))=_;rw[qu];rfl)).mpr ⟨rfl,rfl⟩
theorem JC{a b c:Int}{e1 e2 e3:TM}{ρ:aF}(X:e1 ρ=a_ (.int a))(Z:e2 ρ=a_ (.int b))(Y:e3 ρ=a_ (.int c)):dq (aa e1 (aa e2 (aa e3 ao))) ρ=a_ (tupI [a,b,c]):=by show(aa e1 (aa e2 (aa e3 ao)) ρ>>=bP)=_;rw[bb X (bb Z (bb Y (es:=ao) rfl)),aj];unfold bP;exact if_pos (by show 3<=lim;unfold lim;omega)
def pq(n:Nat)(t:List Int):List Nat:=(d_ n).filter λp:Nat=> !gL (p:Int) t
theorem JD{ρ:aF}{a b c:Int}(U:n<=14)(X:mV 0 ρ=a_ (aA n E))(Y:fS [none,ar 2,ar 3,ar 4] ρ=[none,ar (.int a),ar (.int b),ar (.int c)]):aQ (bj (lX (aW bE (mV 0) (mK (.int 0)))) (gN 0) gU gW [none,ar 2,ar 3,ar 4]) ρ=a_ (.fz ((pq n [a,b,c]).map λp:Nat=>D.int (p:Int))):=
 kL (α:=Nat) (l:=d_ n) (mk:=λi:Nat=>D.int (i:Int)) (f:=λq:Nat=>D.int (q:Int)) (mi:=lX (aW bE (mV 0) (mK (.int 0)))) (g:=gN 0) (t:=gU) (m:=gW) (js:=[none,ar 2,ar 3,ar 4]) (ρ:=ρ) (λρ=>∃x,ρ=[x,ar (.int a),ar (.int b),ar (.int c)]) (λp:Nat=> !gL (p:Int) [a,b,c]) (xp ((cg X (y:=.int 0) rfl).trans rfl) (by omega)) (by rw[NS];unfold lim;omega) ⟨none,Y⟩
  (λp W ρ Z=>by obtain⟨x,rfl⟩:=Z;exact⟨[ar (.int (p:Int)),ar (.int a),ar (.int b),ar (.int c)],rfl,⟨_,rfl⟩,cU (x:=.int (p:Int)) (y:=tupI [a,b,c]) rfl (JC rfl rfl rfl) xo,λ_=>rfl⟩) (zb (λq:Nat=>(q:Int)) _)
theorem EC{ρ:aF}{a b c:Int}(Q:n<=14)(U:mV 5 ρ=a_ (.fz ((pq n [a,b,c]).map λp:Nat=>D.int (p:Int))))(W:fS [none,ar 2,ar 3,ar 4,ar 0] ρ=[none,ar (.int a),ar (.int b),ar (.int c),ar (aA n E)]):aQ (bj (bX (mV 5)) (gN 0) gX gY [none,ar 2,ar 3,ar 4,ar 0]) ρ=a_ (.fz (((pq n [a,b,c]).map λp:Nat=>((nk E [a,b,c] (p:Int):Nat):Int)).map D.int)):=by
 have P:(pq n [a,b,c]).length<=n:=Nv (Ob _ _) (by rw[NS];exact Nq _);have Y:=kL (α:=Nat) (l:=pq n [a,b,c]) (mk:=λi:Nat=>D.int (i:Int)) (f:=λp:Nat=>D.int ((nk E [a,b,c] (p:Int):Nat):Int)) (mi:=bX (mV 5)) (g:=gN 0) (t:=gX) (m:=gY) (js:=[none,ar 2,ar 3,ar 4,ar 0]) (ρ:=ρ) (λρ=>∃x,ρ=[x,ar (.int a),ar (.int b),ar (.int c),ar (aA n E)]) (λ_=>cn) (by unfold bX;rw[U];rfl) (by unfold lim;omega) ⟨none,W⟩
  (λp R ρ Z=>by
   obtain⟨x,rfl⟩:=Z;refine⟨[ar (.int (p:Int)),ar (.int a),ar (.int b),ar (.int c),ar (aA n E)],rfl,⟨_,rfl⟩,rfl,λ_=>?_⟩;have T:bX (dq (aa (mV 1) (aa (mV 2) (aa (mV 3) ao)))) [ar (.int (p:Int)),ar (.int a),ar (.int b),ar (.int c),ar (aA n E)]=a_ ⟨([a,b,c]:List Int).map D.int,.none⟩:=by unfold bX;rw[JC (a:=a) (b:=b) (c:=c) rfl rfl rfl,aj];rfl
   have X:=kL (α:=Int) (l:=[a,b,c]) (mk:=D.int) (f:=λo=>D.bl (tB E o (p:Int))) (g:=gN 0) (t:=jJ) (m:=jK) (js:=[none,ar 4,ar 0]) (ρ:=[ar (.int (p:Int)),ar (.int a),ar (.int b),ar (.int c),ar (aA n E)]) (λρ=>∃x,ρ=[x,ar (aA n E),ar (.int (p:Int))]) (λ_=>cn) T (by show 3<=lim;unfold lim;omega) ⟨none,rfl⟩
    (λo S ρ Z=>by obtain⟨x,rfl⟩:=Z;exact⟨[ar (.int o),ar (aA n E),ar (.int (p:Int))],rfl,⟨_,rfl⟩,rfl,λ_=>kA ((iH rfl rfl rfl).trans kD)⟩) (by rw[cT];exact zh _ _)
   rw[cT,show([a,b,c].map λo=>D.bl (tB E o (p:Int)))=([a,b,c].map λo=>tB E o (p:Int)).map D.bl by rw[NK];rfl]at X;show(aQ _ _>>=_)=_;rw[X,aj];show kj (.fz (([a,b,c].map λo=>tB E o (p:Int)).map D.bl)) [.bl cn]=_;refine(Ez).trans ?_;rw[Qk];rfl) (by rw[cT];exact zb (λp:Nat=>((nk E [a,b,c] (p:Int):Nat):Int)) _)
 rw[cT]at Y;rw[NK];exact Y
theorem B0{a b c:Int}:(gL 1 ((pq n [a,b,c]).map λp:Nat=>((nk E [a,b,c] (p:Int):Nat):Int))||gL 3 ((pq n [a,b,c]).map λp:Nat=>((nk E [a,b,c] (p:Int):Nat):Int)))=pk n E [a,b,c]:=by
 unfold pk pO gL;rw[OU,RE,QF,QF,QF];constructor
 ·rintro(⟨x,hx,h⟩|⟨x,hx,h⟩)
  ·obtain⟨p,Y,rfl⟩:=NL.mp hx;obtain⟨X,Z⟩:=OE.mp Y;refine⟨p,X,?_⟩;rw[P9]at h;unfold gL at Z;rw[Z,OF,NI (show nk E [a,b,c] (p:Int)=1 by omega)];rfl
  ·obtain⟨p,Y,rfl⟩:=NL.mp hx;obtain⟨X,Z⟩:=OE.mp Y;refine⟨p,X,?_⟩;rw[P9]at h;unfold gL at Z;rw[Z,OF,NI (show nk E [a,b,c] (p:Int)=3 by omega),Bool.or_true]
 ·rintro⟨p,Y,h⟩;rw[OA,RE,NV,NV]at h;have hm:p∈pq n [a,b,c]:=OE.mpr ⟨Y,h.1⟩;rcases h.2 with q|q
  ·exact .inl ⟨_,NL.mpr ⟨p,hm,rfl⟩,by rw[P9,q];rfl⟩
  ·exact .inr ⟨_,NL.mpr ⟨p,hm,rfl⟩,by rw[P9,q];rfl⟩
theorem MM{p q r:gz}{x y z:Bool}{ρ:aF}(X:p ρ=a_ x)(Z:q ρ=a_ y)(Y:r ρ=a_ z):nV p (nV q r) ρ=a_ (x && (y && z)):=by
 show(p ρ>>=_)=_;rw[X,aj];cases x with
 |false=>rfl
 |true=>
  rw[if_pos rfl];show(q ρ>>=_)=_;rw[Z,aj];cases y with
  |false=>rfl
  |true=>rw[if_pos rfl,Y];rfl
theorem GD{S:az}{xs:List D}{d:D}(Z:xs.length<=1000000):dE (.lst S.length) [d] (S++[xs])=ar (.ok .non,S++[xs++[d]]):=by show(getL S.length>>=λxs=>mx S.length (xs++[d])) (S++[xs])=_;rw[aI (cH (cD (S:=S) (xs:=xs))),kB (by rw[Nn];show xs.length+1<=lim;unfold lim;omega) (by simp)];rw[List.set_append_right _ _ (Nq _),Nat.sub_self];rfl
theorem Lm{S:az}{a b c:Int}{x5 x6:Option D}{acc:List (List Int)}(Z:n<=14)(W:acc.length<=100000):∃y5 y6,fu (fi n E S.length [ar (.int a),ar (.int b),ar (.int c),x5,x6]) (S++[acc.map tupI])=ar (.ok (.nx (fi n E S.length [ar (.int a),ar (.int b),ar (.int c),y5,y6])),S++[(acc++kF n E a b c).map tupI]):=by
 have t1:∀{x y:Option D},nV (bV (aQ (au ba (aa (mV 0) (aa (mV 2) (aa (mV 3) ao)))))) (nV (bV (aQ (au ba (aa (mV 0) (aa (mV 2) (aa (mV 4) ao)))))) (bV (aQ (au ba (aa (mV 0) (aa (mV 3) (aa (mV 4) ao))))))) (fi n E S.length [ar (.int a),ar (.int b),ar (.int c),x,y])=a_ (c3 E a b c):=λ{x y}=>MM (dX (kA ((iH rfl rfl rfl).trans kD))) (dX (kA ((iH rfl rfl rfl).trans kD))) (dX (kA ((iH rfl rfl rfl).trans kD)));unfold fu kF;cases h:c3 E a b c with
 |false=>
  refine⟨x5,x6,?_⟩;rw[h]at t1;rw[OS,if_neg (by decide),NT];exact N0 ((bU t1).trans (if_neg (by decide))) _
 | true=>
  rw[h]at t1;have Y:=JD (n:=n) (E:=E) (ρ:=fi n E S.length [ar (.int a),ar (.int b),ar (.int c),x5,x6]) (a:=a) (b:=b) (c:=c) Z rfl rfl;have X:=EC (n:=n) (E:=E) (ρ:=fi n E S.length [ar (.int a),ar (.int b),ar (.int c),ar (.fz ((pq n [a,b,c]).map λp:Nat=>D.int (p:Int))),x6]) (a:=a) (b:=b) (c:=c) Z rfl rfl;refine⟨ar (.fz ((pq n [a,b,c]).map λp:Nat=>D.int (p:Int))),ar (.fz (((pq n [a,b,c]).map λp:Nat=>((nk E [a,b,c] (p:Int):Nat):Int)).map D.int)),(N0 ((bU t1).trans (if_pos rfl)) _).trans ((N0 (a7 (iB Y)) _).trans ((N0 (a7 (iB X)) _).trans ?_))⟩;have t2:=or_eq (cU (f:=inD) (e1:=mK (.int 1)) (e2:=mV 6) (ρ:=fi n E S.length [ar (.int a),ar (.int b),ar (.int c),ar (.fz ((pq n [a,b,c]).map λp:Nat=>D.int (p:Int))),ar (.fz (((pq n [a,b,c]).map λp:Nat=>((nk E [a,b,c] (p:Int):Nat):Int)).map D.int))]) (x:=.int 1) rfl rfl EB) (cU (f:=inD) (e1:=mK (.int 3)) (e2:=mV 6) (x:=.int 3) rfl rfl EB);rw[B0]at t2;rw[OF];cases q:pk n E [a,b,c]with
  |false=>
   rw[q]at t2;rw[if_neg (by decide),NT];exact N0 ((bU t2).trans (if_neg (by decide))) _
  |true=>
   rw[q]at t2;rw[if_pos rfl];refine(N0 ((bU t2).trans (if_pos rfl)) _).trans (mG (x:=.non) ((mH (x:=.lst S.length) rfl rfl (N0 (JC (a:=a) (b:=b) (c:=c) rfl rfl rfl) _)).trans ((GD (by rw[Nl];omega)).trans ?_)));rw[NX];rfl
theorem AL{a b c:Int}:(kF n E a b c).length<=1:=by
 unfold kF;split
 ·exact Nq _
 ·exact NN _
theorem AM{S:az}{its:List D}{a b:Int}(U:n<=14):∀(post:List Int) (acc:List (List Int)) (x4 x5 x6:Option D),acc.length+post.length<=90000->∃Y Z X,dC ⟨its,.none⟩ (gN 4) fu (post.map D.int) (fi n E S.length [ar (.int a),ar (.int b),x4,x5,x6]) (S++[acc.map tupI])=ar (.ok (.nx (fi n E S.length [ar (.int a),ar (.int b),Y,Z,X])),S++[(acc++post.flatMap (kF n E a b)).map tupI])
 |[],acc,x4,x5,x6,_=>⟨x4,x5,x6,by rw[Ov,Px,NT,da];rfl⟩
 |c::post,acc,x4,x5,x6,h=>by
  have h:acc.length+(post.length+1)<=90000:=h;have Q:=AL (n:=n) (E:=E) (a:=a) (b:=b) (c:=c);obtain⟨T,R,e⟩:=Lm (n:=n) (E:=E) (S:=S) (a:=a) (b:=b) (c:=c) (x5:=x5) (x6:=x6) (acc:=acc) U (by omega);obtain⟨Y,Z,X,W⟩:=AM (S:=S) (its:=its) (a:=a) (b:=b) U post (acc++kF n E a b c) (ar (.int c)) T R (by rw[Nn];omega);refine⟨Y,Z,X,?_⟩;rw[ND]at W;rw[NY];exact(d6 rfl e).trans W
theorem xu{a b:Int}:((j6 n b).flatMap (kF n E a b)).length<=n:=by have:=kE (f:=kF n E a b) (m:=1) (λc=>AL) (j6 n b);have:=nj (n:=n) (b:=b);omega
theorem AN{S:az}{its:List D}{a:Int}(P:n<=14):∀(post:List Int) (acc:List (List Int)) (x3 x4 x5 x6:Option D),(∀b∈post,0<=b/\b<n)->acc.length+post.length*14<=80000->∃Y X Z W,dC ⟨its,.none⟩ (gN 3) fw (post.map D.int) (fi n E S.length [ar (.int a),x3,x4,x5,x6]) (S++[acc.map tupI])=ar (.ok (.nx (fi n E S.length [ar (.int a),Y,X,Z,W])),S++[(acc++post.flatMap λb=>(j6 n b).flatMap (kF n E a b)).map tupI])
 |[],acc,x3,x4,x5,x6,_,_=>⟨x3,x4,x5,x6,by rw[Ov,Px,NT,da];rfl⟩
 | b::post,acc,x3,x4,x5,x6,hb,h=>by
  have h:acc.length+(post.length+1)*14<=80000:=h;obtain⟨N,bn⟩:=hb b (.head _);have L:=xu (n:=n) (E:=E) (a:=a) (b:=b);have K:=nj (n:=n) (b:=b);obtain⟨R,Q,T,hf⟩:=AM (n:=n) (E:=E) (S:=S) (its:=(j6 n b).map D.int) (a:=a) (b:=b) P (j6 n b) acc x4 x5 x6 (by omega);have e:fw (fi n E S.length [ar (.int a),ar (.int b),x4,x5,x6]) (S++[acc.map tupI])=ar (.ok (.nx (fi n E S.length [ar (.int a),ar (.int b),R,Q,T])),S++[(acc++(j6 n b).flatMap (kF n E a b)).map tupI]):=by unfold fw;exact gI (zd (by omega) N bn ((cg (x:=.int b) (y:=.int 1) rfl rfl).trans rfl) rfl) hf
  obtain⟨Y,X,Z,W,U⟩:=AN (S:=S) (its:=its) (a:=a) P post (acc++(j6 n b).flatMap (kF n E a b)) (ar (.int b)) R Q T (λc O=>hb c (.tail _ O)) (by rw[Nn];omega);refine⟨Y,X,Z,W,?_⟩;rw[ND]at U;rw[NY];exact(d6 rfl e).trans U
theorem ED{a:Int}(Z:n<=14):((j6 n a).flatMap λb=>(j6 n b).flatMap (kF n E a b)).length<=196:=by have:=kE (f:=λb=>(j6 n b).flatMap (kF n E a b)) (m:=14) (λb=>Nv xu Z) (j6 n a);have:=nj (n:=n) (b:=a);omega
theorem Ln{a b:Int}(a0:0<=a)(h:b∈j6 n a):0<=b/\b<n:=by unfold j6 at h;obtain⟨c,Z,rfl⟩:=NL.mp h;rw[OP]at Z;omega
theorem AO{S:az}{its:List D}(W:n<=14):∀(post:List Nat) (acc:List (List Int)) (x2 x3 x4 x5 x6:Option D),(∀a∈post,a<n)->acc.length+post.length*196<=70000->∃T X U Y R,dC ⟨its,.none⟩ (gN 2) fx (post.map λi:Nat=>D.int (i:Int)) (fi n E S.length [x2,x3,x4,x5,x6]) (S++[acc.map tupI])=ar (.ok (.nx (fi n E S.length [T,X,U,Y,R])),S++[(acc++post.flatMap λa:Nat=>(j6 n (a:Int)).flatMap λb=>(j6 n b).flatMap (kF n E (a:Int) b)).map tupI])
 |[],acc,x2,x3,x4,x5,x6,_,_=>⟨x2,x3,x4,x5,x6,by rw[Ov,Px,NT,da];rfl⟩
 | a::post,acc,x2,x3,x4,x5,x6,ha,h=>by
  have h:acc.length+(post.length+1)*196<=70000:=h;have K:=ha a (.head _);have J:=ED (n:=n) (E:=E) (a:=(a:Int)) W;have I:=nj (n:=n) (b:=(a:Int));obtain⟨L,O,N,P,hf⟩:=AN (n:=n) (E:=E) (S:=S) (its:=(j6 n (a:Int)).map D.int) (a:=(a:Int)) W (j6 n (a:Int)) acc x3 x4 x5 x6 (λb Z=>Ln (by omega) Z) (by omega);have e:fx (fi n E S.length [ar (.int (a:Int)),x3,x4,x5,x6]) (S++[acc.map tupI])=ar (.ok (.nx (fi n E S.length [ar (.int (a:Int)),L,O,N,P])),S++[(acc++(j6 n (a:Int)).flatMap λb=>(j6 n b).flatMap (kF n E (a:Int) b)).map tupI]):=by unfold fx;exact gI (zd (b:=(a:Int)) (by omega) (by omega) (by omega) ((cg (x:=.int (a:Int)) (y:=.int 1) rfl rfl).trans rfl) rfl) hf
  obtain⟨T,X,U,Y,R,Q⟩:=AO (S:=S) (its:=its) W post (acc++(j6 n (a:Int)).flatMap λb=>(j6 n b).flatMap (kF n E (a:Int) b)) (ar (.int (a:Int))) L O N P (λb Z=>ha b (.tail _ Z)) (by rw[Nn];omega);refine⟨T,X,U,Y,R,?_⟩;rw[ND]at Q;rw[NY];exact(d6 rfl e).trans Q
theorem JE(Z:n<=14)(w:WebOk n E):kK (fO [aA n E])=a_ (.fz ((ff n E).map tupI)):=by
 refine nX (cY _) λS=>?_;obtain⟨R,W,T,U,Q,hf⟩:=AO (n:=n) (E:=E) (S:=S) (its:=(d_ n).map λi:Nat=>D.int (i:Int)) Z (d_ n) [] none none none none none (λa X=>NR.mp X) (by rw[NS];show 0+n*196<=70000;omega);rw[O5, <-JB Z w]at hf;have Y:fO [aA n E] S=ar (.ok (.lst S.length),S++[(ff n E).map tupI]):=by refine eQ (o:=.ret (.lst S.length)) ?_ rfl;show kl [ar (aA n E),none,none,none,none,none,none] S=_;unfold kl;exact(aL (ρ':=fi n E S.length [none,none,none,none,none]) (bJ (jk (ys:=[]) (S1:=S) rfl (NN _)))).trans ((aL (gI (xp rfl (by omega)) hf)).trans (eP (x:=.lst S.length) rfl))
 exact⟨_,_,Y,[(ff n E).map tupI],S.length,rfl,rfl,by simp,Nq _⟩
end
def nq(s t:List Int):List Int:=s.filter λx=> !gL x t
theorem qB{p:Int}{t:List Int}:gL p t=decide (p∈t):=by unfold gL;rw[OU,QF,NV];exact⟨λ⟨x,hx,h⟩=>by rw[P9]at h;exact h ▸ hx,λh=>⟨p,h,beq_self_eq_true p⟩⟩
theorem AQ{s t:List Int}(Y:s.Nodup)(X:t.Nodup)(W:s.length=t.length):(nq s t).length=(nq t s).length:=by
 have key:∀s t:List Int,s.length=(s.filter λx=>gL x t).length+(nq s t).length:=λs t=>by have:=List.length_eq_countP_add_countP (λx=>gL x t) (l:=s);rw[PH,PH]at this;rw[this];congr 2;unfold nq;exact O4 λx _=>by cases gL x t<;>rfl
 have Z:(s.filter λx=>gL x t).Perm (t.filter λx=>gL x s):=(PX (Y.filter _) (X.filter _)).mpr λx=>by rw[OE,OE,qB,qB,NV,NV];exact And.comm
 have k1:=key s t;have k2:=key t s;have:=Z.length_eq;omega
def xv(E:List (List Int))(s t:List Int):Bool:=decide ((nq s t).length=1) && !tB E ((nq s t).getD 0 0) ((nq t s).getD 0 0)
theorem EE{s t:List Int}(X:s.Nodup)(Y:t.Nodup):(s++t).filter (λx=>decide ((s++t).count x=1))=nq s t++nq t s:=by
 rw[List.filter_append];unfold nq;congr 1
 ·refine O4 λx Z=>?_;rw[List.count_append,X.count,if_pos Z,qB,OU,NV,z_,Rt,Y.count];split<;>rename_i h
  ·exact⟨λh=>by omega,λq=>absurd h q⟩
  ·exact⟨λ_=>h,λ_=>rfl⟩
 ·refine O4 λx Z=>?_;rw[List.count_append,Y.count,if_pos Z,qB,OU,NV,z_,Rt,X.count];split<;>rename_i h
  ·exact⟨λh=>by omega,λq=>absurd h q⟩
  ·exact⟨λ_=>h,λ_=>rfl⟩
theorem B1(p:Int)(l:List Int):(l.map pa).countP (λy=>f_ y (.int p))=l.count p:=by rw[Qk];unfold List.count;refine List.countP_congr λx _=>?_;show f_ (.int x) (.int p)=cn↔(x==p)=cn;simp[f_]
theorem B2{p:Int}{l:List Int}:oR (tupI l) [.int p]=a_ (.int ((l.count p:Nat):Int)):=by funext S;have Z:gw S 60 (tupI l)=ar (.tuple (l.map pa)):=kC l;have Y:gw S 60 (.int p)=ar (.int p):=iS;unfold oR;dsimp only;rw[Z,Y];dsimp only;rw[B1];rfl
theorem vD{l:List Int}(h:l.length=1):l=[l.getD 0 0]:=by
 match l,h with
 |[x],_=>rfl
section
variable {n:Nat}{E:List (List Int)}
theorem xw{s t:List Int}{tt:gz}{e:TM}{ρ:aF}{i j:Nat}(hs:mV i ρ=a_ (tupI s))(Y:fS [none,ar j] ρ=[none,ar (tupI t)])(T:s.length<=100)(X:tt=eS mT (mV 0) (mV 1))(W:e=mV 0):aQ (bj (bX (mV i)) (gN 0) tt e [none,ar j]) ρ=a_ (.fz ((nq s t).map D.int)):=by
 subst X W;exact kL (α:=Int) (l:=s) (mk:=D.int) (f:=D.int) (λρ=>∃x,ρ=[x,ar (tupI t)]) (λx=> !gL x t) (by unfold bX;rw[hs];rfl) (by unfold lim;omega) ⟨none,Y⟩
  (λp U ρ Z=>by obtain⟨x,rfl⟩:=Z;exact⟨[ar (.int p),ar (tupI t)],rfl,⟨_,rfl⟩,cU (x:=.int p) (y:=tupI t) rfl rfl xo,λ_=>rfl⟩) (iU _)
theorem Lo{s t:List Int}(X:s.Nodup)(W:t.Nodup)(T:s.length=3)(S:t.length=3):ft [aA n E,tupI s,tupI t]=a_ (.bl (xv E s t)):=by
 have k1:=xw (tt:=gD) (e:=gE) (ρ:=[ar (aA n E),ar (tupI s),ar (tupI t),none,none]) (s:=s) (t:=t) (i:=1) (j:=2) rfl rfl (by omega) rfl rfl;have k2:=xw (tt:=gF) (e:=gG) (ρ:=[ar (aA n E),ar (tupI s),ar (tupI t),ar (.fz ((nq s t).map D.int)),none]) (s:=t) (t:=s) (i:=2) (j:=1) rfl rfl (by omega) rfl rfl;have Z:=AQ X W (by omega);refine dj (o:=.ret (.bl (xv E s t))) ?_ rfl;show gT [ar (aA n E),ar (tupI s),ar (tupI t),none,none]=_;unfold gT;refine(a7 (iB k1)).trans ((a7 (iB k2)).trans (cL ?_));show pU _ _ [ar (aA n E),ar (tupI s),ar (tupI t),ar (.fz ((nq s t).map D.int)),ar (.fz ((nq t s).map D.int))]=_;refine and_eq (b:=decide ((nq s t).length=1)) ((cg (x:=.int ((nq s t).length:Int)) (y:=.int 1) ((vB rfl).trans (by rw[Nl])) rfl).trans (G8.trans ?_)) (λh=>?_) λh=>?_
 ·congr 2;exact P2.mpr (by omega)
 ·have h:=Om h;have Y:=vD h;have U:=vD (Z ▸ h);unfold xv;rw[NI h,OF];generalize (nq s t).getD 0 0=a at*;generalize (nq t s).getD 0 0=b at*;rw[Y,U];exact notM (kA ((iH rfl rfl rfl).trans sx))
 ·unfold xv;rw[h];rfl
def EF{α:Type}:List α->List (α×α)
 |[]=>[]
 |x::l=>l.map (x,·)++EF l
theorem Lp{α:Type}:∀l:List α,gn 1 l=l.map ([·])
 |[]=>rfl
 |x::l=>by
  show(gn 0 l).map (x::·)++gn 1 l=_;rw[lH,Lp l];rfl
theorem Lq{α:Type}:∀l:List α,gn 2 l=(EF l).map λp=>[p.1,p.2]
 |[]=>rfl
 |x::l=>by
  show(gn 1 l).map (x::·)++gn 2 l=_;rw[Lp,Lq l,EF,NX,NK,NK];rfl
theorem qC{α:Type}{p:α×α}:∀{l:List α},p∈EF l->p.1∈l/\p.2∈l
 | x::l,h=>by
  rcases Oj.mp h with h|h
  ·obtain⟨y,Z,rfl⟩:=NL.mp h;exact⟨.head _,.tail _ Z⟩
  ·exact⟨.tail _ (qC h).1,.tail _ (qC h).2⟩
theorem sE{α:Type}{mk:α->D}{g:mw}{b:cw}{its:List D}(R:aF->Prop)(q:α->Bool)(f:α->D):∀(l:List α) (ρ:aF),R ρ->(∀a∈l,∀ ρ,R ρ->∃Z,g (mk a) ρ=a_ Z/\(q a=cn->b Z=a_ (.ret (f a)))/\(q a=dt->∃Y,R Y/\b Z=a_ (.nx Y)))->
  (∀a,l.find? q=ar a->dC ⟨its,.none⟩ g b (l.map mk) ρ=a_ (.ret (f a)))/\(l.find? q=none->∃ ρ',R ρ'/\dC ⟨its,.none⟩ g b (l.map mk) ρ=a_ (.nx ρ'))
 |[],ρ,hR,_=>⟨λa h=>by simp at h,λ_=>⟨ρ,hR,da⟩⟩
 | a::l,ρ,hR,hb=>by
  obtain⟨Z,e1,e2,e3⟩:=hb a (.head _) ρ hR;rw[List.find?_cons,NH];cases hq:q a with
  |true=>
   refine⟨λc h=>?_,λh=>by cases h⟩;cases h;rw[dC,cQ,aj,e1,aj,e2 hq];rfl
  |false=>
   obtain⟨Y,X,U⟩:=e3 hq;have W:=sE (its:=its) R q f l Y X λx T=>hb x (.tail _ T);rw[dC,cQ,aj,e1,aj,U];exact W
def um:Option (List Int×List Int)->D
 |none=>.non
 |some p=>.tup [tupI p.1,tupI p.2]
def og(E L:List (List Int)):Option (List Int×List Int):=(EF L).find? λp=>xv E p.1 p.2
theorem sF{mi:aF->M Iter}{its:List D}{g:mw}{b:cw}{ρ:aF}(Z:mi ρ=a_ ⟨its,.none⟩):ir mi g b ρ=dC ⟨its,.none⟩ g b its ρ:=by unfold ir;rw[Z,aj]
theorem Lr{ρ:aF}{e1 e2:TM}{x y:D}(Y:e1 ρ=a_ x)(Z:e2 ρ=a_ y):dq (aa e1 (aa e2 ao)) ρ=a_ (.tup [x,y]):=by show(aa e1 (aa e2 ao) ρ>>=bP)=_;rw[bb Y (bb Z (es:=ao) rfl),aj];unfold bP;exact if_pos sX
def Lu(s:List Int):Prop:=s.Nodup/\s.length=3
theorem mn(w:WebOk n E){s:List Int}(h:s∈ff n E):Lu s:=by
 obtain⟨a,b,c,rfl,a0,ab,U,W⟩:=xt w (OE.mp h).1;refine⟨?_,rfl⟩;have X:a≠b:=by omega
 have Z:a≠c:=by omega
 have Y:b≠c:=by omega
 simp[X,Z,Y]
theorem JF(Z:n<=14)(w:WebOk n E):kK (bf [aA n E])=a_ (.fz ((ff n E).map tupI)):=
 nX (cY _) λS=>⟨_,_,Ew Z w S,[(ff n E).map tupI],S.length,rfl,rfl,by simp,Nq _⟩
theorem B3(U:n<=14)(w:WebOk n E):eN [aA n E]=a_ (um (og E (ff n E))):=by
 have O:=qA U w;have X:bG [.fz ((ff n E).map tupI),.int 2]=a_ (.fz ((EF (ff n E)).map λp=>D.tup [tupI p.1,tupI p.2])):=by
  have P:((ff n E).map tupI).length ^ 2<=3000*3000:=by rw[Nl,Nat.pow_two];exact Nat.mul_le_mul (by omega) (by omega)
  have:=mj (b:=cn) 2 4 ((ff n E).map tupI) (by decide) (by decide) P (λi Z=>by
   rw[Nl]
   match i,Z with
   |0,_=>rw[Nat.pow_zero];decide
   |1,_=>rw[Nat.pow_one];omega) (by rw[Nl];omega) (cY _)
  rw[AD,Lq,NK,NK]at this;exact this
 have Z:bX (aQ (au bG (aa (aQ (au bf (aa (mV 0) ao))) (aa (mK (.int 2)) ao)))) [ar (aA n E),none,none]=a_ ⟨(EF (ff n E)).map λp=>D.tup [tupI p.1,tupI p.2],.none⟩:=by
  have Q:aQ (au bf (aa (mV 0) ao)) [ar (aA n E),none,none]=a_ (.fz ((ff n E).map tupI)):=by unfold aQ;rw[dW (x:=aA n E) rfl];exact JF U w
  unfold bX;rw[kA ((call2 Q (y:=.int 2) rfl).trans X),aj];rfl
 obtain⟨f1,f2⟩:=sE (α:=List Int×List Int) (mk:=λp=>D.tup [tupI p.1,tupI p.2]) (its:=(EF (ff n E)).map λp=>D.tup [tupI p.1,tupI p.2]) (g:=fV 2 (a9 (gN 1) (a9 (gN 2) eE))) (b:=jL) (λρ=>∃x y,ρ=[ar (aA n E),x,y]) (λp=>xv E p.1 p.2) (λp=>D.tup [tupI p.1,tupI p.2]) (EF (ff n E)) [ar (aA n E),none,none] ⟨none,none,rfl⟩ (λp T ρ W=>by
  obtain⟨x,y,rfl⟩:=W;obtain⟨R,S⟩:=qC T;have t1:=mn w R;have t2:=mn w S;have Y:bV (aQ (au ft (aa (mV 0) (aa (mV 1) (aa (mV 2) ao))))) [ar (aA n E),ar (tupI p.1),ar (tupI p.2)]=a_ (xv E p.1 p.2):=dX (kA ((iH rfl rfl rfl).trans (Lo t1.1 t2.1 t1.2 t2.2)));refine⟨[ar (aA n E),ar (tupI p.1),ar (tupI p.2)],rfl,λh=>?_,λh=>?_⟩
  ·rw[h]at Y;exact(bU Y).trans ((if_pos rfl).trans (cL (Lr rfl rfl)))
  ·rw[h]at Y;exact⟨_,⟨_,_,rfl⟩,AB Y⟩)
 refine vk (o:=.ret (um (og E (ff n E)))) ?_ rfl;show ky [ar (aA n E),none,none]=_;unfold ky og;cases h:(EF (ff n E)).find? λp=>xv E p.1 p.2 with
 |some p=>exact ig ((sF Z).trans (f1 p h))
 |none=>
  obtain⟨ρ',_,e⟩:=f2 h;exact(a7 ((sF Z).trans e)).trans (cL rfl)
theorem EG{L:List (List Int)}{i:Nat}(h:i<L.length):og E (L.drop i)=match (L.drop (i+1)).find? (xv E (L.getD i []))with|some t=>ar (L.getD i [],t)|none=>og E (L.drop (i+1)):=by
 rw[Pd h];have Z:L.getD i []=L[i]:=by rw[Ny,Np h];rfl
 rw[Z];unfold og;rw[EF,List.find?_append,List.find?_map];show(Option.map _ ((L.drop (i+1)).find? (xv E L[i]))).or _=_;cases (L.drop (i+1)).find? (xv E L[i])<;>rfl
theorem MN{m:TM}{ρ:aF}{n:Nat}(h:m ρ=a_ (.int n))(Z:n<=100000):lX m ρ=a_ ⟨(d_ n).map λi:Nat=>D.int (i:Int),.none⟩:=by rw[oX h,yV (by omega),N5,Li]
theorem GE{L:List (List Int)}{i:Nat}(h:i<L.length):bE (.fz (L.map tupI)) (.int (i:Int))=a_ (tupI (L.getD i [])):=by
 have Z:L.getD i []=L[i]:=by rw[Ny,Np h];rfl
 have:jT (L.map tupI) (i:Int)=ar (tupI (L.getD i [])):=by
  have e:xO (L.map tupI).length (i:Int)=ar i:=by unfold xO;rw[if_pos (by omega),if_pos (by rw[Nl];omega),N5]
  unfold jT;rw[e,Pu,NM,Np h,Z];rfl
 show(match jT (L.map tupI) (i:Int)with|some d=>a_ d|none=>M.fail)=_;rw[this]
theorem GF{L:List (List Int)}{i:Nat}{t:List Int}{x:Option D}(N:i<L.length)(Y:Lu (L.getD i []))(t2:Lu t):
  (xv E (L.getD i []) t=cn->cR [ar (aA n E),ar (.fz (L.map tupI)),ar (.int (i:Int)),ar (tupI t),x]=a_ (.ret (.tup [tupI (L.getD i []),tupI t])))/\(xv E (L.getD i []) t=dt->∃y,cR [ar (aA n E),ar (.fz (L.map tupI)),ar (.int (i:Int)),ar (tupI t),x]=a_ (.nx [ar (aA n E),ar (.fz (L.map tupI)),ar (.int (i:Int)),ar (tupI t),y])):=by
 have X:∀{e1 e2:TM} {ρ:aF},e1 ρ=a_ (.fz (L.map tupI))->e2 ρ=a_ (.int (i:Int))->aW bE e1 e2 ρ=a_ (tupI (L.getD i [])):=λU S=>(cg U S).trans (GE N);generalize hs:L.getD i []=s at*;have Z:∀{e1 e2 e3:TM} {ρ:aF},e1 ρ=a_ (.fz (L.map tupI))->e2 ρ=a_ (.int (i:Int))->e3 ρ=a_ (tupI t)->aQ (aW cy (aW bE e1 e2) e3) ρ=a_ (tupI (s++t)):=λU S O=>(Gv (X U S) O (by rw[Nl,Nl,Y.2,t2.2];decide)).trans (by unfold tupI;rw[NX]);have R:aQ (bj (bX (aQ (aW cy (aW bE (mV 1) (mV 2)) (mV 3)))) (gN 0) je jf [none,ar 1,ar 2,ar 3]) [ar (aA n E),ar (.fz (L.map tupI)),ar (.int (i:Int)),ar (tupI t),x]=a_ (.fz ((nq s t++nq t s).map D.int)):=by
  rw[<-EE Y.1 t2.1];exact kL (α:=Int) (l:=s++t) (mk:=D.int) (f:=D.int) (λρ=>∃x,ρ=[x,ar (.fz (L.map tupI)),ar (.int (i:Int)),ar (tupI t)]) (λx=>decide ((s++t).count x=1)) (by unfold bX;rw[Z rfl rfl rfl];rfl) (by rw[Nn,Y.2,t2.2];unfold lim;omega) ⟨none,rfl⟩
   (λp J ρ T=>by obtain⟨x,rfl⟩:=T;refine⟨[ar (.int p),ar (.fz (L.map tupI)),ar (.int (i:Int)),ar (tupI t)],rfl,⟨_,rfl⟩,cU (x:=.int (((s++t).count p:Nat):Int)) (y:=.int 1) ((Jv (Z rfl rfl rfl) rfl).trans B2) rfl (G8.trans ?_),λ_=>rfl⟩;congr 2;exact P2.mpr (by omega)) (iU _)
 have Q:=AQ Y.1 t2.1 (by rw[Y.2,t2.2]);have W:nV (eS oE (de dm (mV 4)) (mK (.int 2))) (eA (bV (aQ (au ba (aa (mV 0) (aa (aW bE (mV 4) (mK (.int 0))) (aa (aW bE (mV 4) (mK (.int 1))) ao))))))) [ar (aA n E),ar (.fz (L.map tupI)),ar (.int (i:Int)),ar (tupI t),ar (.fz ((nq s t++nq t s).map D.int))]=a_ (xv E s t):=by
  show(eS oE (de dm (mV 4)) (mK (.int 2)) _>>=_)=_;rw[cU (x:=.int ((nq s t++nq t s).length:Int)) (y:=.int 2) ((vB rfl).trans (by rw[Nl])) rfl G8,aj];have hd:decide (((nq s t++nq t s).length:Int)=2)=decide ((nq s t).length=1):=P2.mpr (by rw[Nn];omega);rw[hd];unfold xv;by_cases h:(nq s t).length=1
  ·rw[NI h,if_pos rfl,OF];have P:=vD h;have K:=vD (Q ▸ h);generalize (nq s t).getD 0 0=a at*;generalize (nq t s).getD 0 0=b at*;rw[P,K];exact not_eq (dX (kA ((iH rfl rfl rfl).trans kD)))
  ·rw[N7 h,if_neg (by decide)];rfl
 unfold cR;constructor
 ·intro h;rw[h]at W;exact(a7 (iB R)).trans ((bU W).trans ((if_pos rfl).trans (cL (Lr (X rfl rfl) rfl))))
 ·intro h;rw[h]at W;exact⟨_,(a7 (iB R)).trans (AB W)⟩
theorem EH{L:List (List Int)}{its:List D}(X:∀s∈L,Lu s)(Z:L.length<=3000):∀(m i:Nat) (x y:Option D) (z:Option D),i+m=L.length->
  (∀p,og E (L.drop i)=ar p->dC ⟨its,.none⟩ (gN 2) dg ((n3 i m).map λi:Nat=>D.int (i:Int)) [ar (aA n E),ar (.fz (L.map tupI)),z,x,y]=a_ (.ret (.tup [tupI p.1,tupI p.2])))/\(og E (L.drop i)=none->∃ ρ',dC ⟨its,.none⟩ (gN 2) dg ((n3 i m).map λi:Nat=>D.int (i:Int)) [ar (aA n E),ar (.fz (L.map tupI)),z,x,y]=a_ (.nx ρ'))
 |0,i,x,y,z,h=>by
  rw[OM (by omega)];exact⟨λp h=>(by cases h),λ_=>⟨_,da⟩⟩
 | m+1,i,x,y,z,h=>by
  have Y:i<L.length:=by omega
  have hm:L.getD i []∈L:=by rw[Ny,Np Y];exact Ot Y
  have t1:=X _ hm;obtain⟨f1,f2⟩:=sE (α:=List Int) (mk:=tupI) (its:=(L.drop (i+1)).map tupI) (g:=gN 3) (b:=cR) (λρ=>∃x y,ρ=[ar (aA n E),ar (.fz (L.map tupI)),ar (.int (i:Int)),x,y]) (xv E (L.getD i [])) (λt=>D.tup [tupI (L.getD i []),tupI t]) (L.drop (i+1)) [ar (aA n E),ar (.fz (L.map tupI)),ar (.int (i:Int)),x,y] ⟨x,y,rfl⟩ (λt P ρ W=>by obtain⟨x,y,rfl⟩:=W;obtain⟨T,S⟩:=GF (n:=n) (E:=E) (L:=L) (i:=i) (t:=t) (x:=y) Y t1 (X t (QK P));refine⟨[ar (aA n E),ar (.fz (L.map tupI)),ar (.int (i:Int)),ar (tupI t),y],rfl,T,λh=>?_⟩;obtain⟨z,e⟩:=S h;exact⟨_,⟨_,_,rfl⟩,e⟩)
  have U:dg [ar (aA n E),ar (.fz (L.map tupI)),ar (.int (i:Int)),x,y]=dC ⟨(L.drop (i+1)).map tupI,.none⟩ (gN 3) cR ((L.drop (i+1)).map tupI) [ar (aA n E),ar (.fz (L.map tupI)),ar (.int (i:Int)),x,y]:=by unfold dg;refine sF ?_;have hd:=Ay (b:=cn) (us:=L.map tupI) (e:=mV 1) (e2:=aW cy (mV 2) (mK (.int 1))) (i:=i+1) (ρ:=[ar (aA n E),ar (.fz (L.map tupI)),ar (.int (i:Int)),x,y]) rfl ((cg (x:=.int (i:Int)) (y:=.int 1) rfl rfl).trans rfl) (by rw[Nl];exact Z) (cY _);unfold bX;rw[hd,aj, <-List.map_drop];rfl
  rw[List.range'_succ,NH,dC,cQ,aj,show gN 2 (D.int (i:Int)) [ar (aA n E),ar (.fz (L.map tupI)),z,x,y]=a_ [ar (aA n E),ar (.fz (L.map tupI)),ar (.int (i:Int)),x,y]from rfl,aj,U,EG Y];cases hf:(L.drop (i+1)).find? (xv E (L.getD i []))with
  |some t=>
   rw[f1 t hf];exact⟨λp h=>(by cases h;rfl),λh=>(by cases h)⟩
  |none=>
   obtain⟨ρ',⟨Q,R,rfl⟩,e⟩:=f2 hf;rw[e];exact EH X Z m (i+1) Q R _ (by omega)
theorem GG{L:List (List Int)}(X:∀s∈L,Lu s)(Z:L.length<=3000):fR [aA n E,.fz (L.map tupI)]=a_ (um (og E L)):=by
 obtain⟨f1,f2⟩:=EH (n:=n) (E:=E) (L:=L) (its:=(d_ L.length).map λi:Nat=>D.int (i:Int)) X Z L.length 0 none none none (by omega);have Y:lX (de dm (mV 1)) [ar (aA n E),ar (.fz (L.map tupI)),none,none,none]=a_ ⟨(d_ L.length).map λi:Nat=>D.int (i:Int),.none⟩:=MN ((vB rfl).trans (by rw[Nl])) (by omega);rw[<-QI,RH]at f1 f2;refine dj (o:=.ret (um (og E L))) ?_ rfl;show jA [ar (aA n E),ar (.fz (L.map tupI)),none,none,none]=_;unfold jA;cases h:og E L with
 |some p=>exact ig ((sF Y).trans (f1 p h))
 |none=>
  obtain⟨ρ',e⟩:=f2 h;exact(a7 ((sF Y).trans e)).trans (cL rfl)
end
def m_find:cw:=aJ (jQ (eA (bV (DI (mV 1)))) (bF (mK .non)) d4) (bF (aQ (bj (lX (mK (.int 13))) (gN 0) eh eu [none,ar 3])))
def jN:cw:=aJ (bC 3 (aQ (bp (aa (fq (mV 1) "NoWeb") (aa (fq (mV 1) "NoPlace") (aa (fq (mV 1) "NoPlaces") ao)))))) (aJ (bC 3 (aQ (aW cy (mV 3) (aQ (bp (aa (fq (mV 1) "NoSharing") (aa (fq (mV 1) "NoRoot") (aa (fq (mV 1) "NoNumber") ao)))))))) (aJ (bC 3 (aQ (aW cy (mV 3) (aQ (bp (aa (fq (mV 1) "NotJoined") (aa (fq (mV 1) "NoTie") (aa (fq (mV 1) "NoText") ao)))))))) (aJ (bC 3 (aQ (aW cy (mV 3) (aQ (bp (aa (fq (mV 1) "NoLine") (aa (fq (mV 1) "NoDeed") (aa (fq (mV 1) "TooGreat") ao)))))))) (aJ (bC 3 (aQ (aW cy (mV 3) (aQ (bp (aa (fq (mV 1) "NoMap") ao)))))) m_find))))
theorem EI(f:D)(c:M D):gi f c=aJ (bC 1 (mK .non)) (aJ (wN 0 2 1 f c) jN):=rfl
theorem B4(f g x:D):(jN [ar f,ar x,none,none]>>=outD)=(jN [ar g,ar x,none,none]>>=outD):=by unfold jN m_find;simp only[aJ,bC,sW,jQ,bF,d4,mV,mK,bp,aW,wC,fq,DI,Na,eA,bV,eS,aa,ao,au,de,bj,aQ,lX,yj,dY,aj,Gd,K5,K6,K7,K8,List.set_cons_succ,List.set_cons_zero,outD,fS,Sd,List.map_nil,Option.bind,List.getElem?_cons_succ,List.getElem?_cons_zero,Option.join]
theorem EJ(f:D)(c:M D):bL f c []=si c (λx=>jN [ar f,ar x,none,none]>>=outD):=by
 funext S;unfold bL pS;rw[if_pos (show[f].length=1 from rfl)];show((gi f c [ar f,none,none,none])>>=outD) S=_;rw[EI,a7 (ρ':=[ar f,ar .non,none,none]) rfl];have Z:wN 0 2 1 f c [ar f,ar .non,none,none]=DD 2 1 c [ar f,ar .non,none,none]:=by unfold wN;exact if_pos rfl
 show((wN 0 2 1 f c [ar f,ar .non,none,none]>>=λo=>yj o jN)>>=outD) S=_;rw[Z,dY];show M.bnd (DD 2 1 c [ar f,ar .non,none,none]) _ S=_;unfold M.bnd DD si;cases h:c S with
 |none=>rfl
 | some p=>
  obtain⟨r,S1⟩:=p;cases r with
  |ok a=>rfl
  | ex x=>
   cases x with
   |exc n ds=>
    dsimp only;by_cases hn:n∈bt
    ·rw[if_pos hn,if_pos hn];rfl
    ·rw[if_neg hn,if_neg hn]
   |_=>rfl
theorem iF:∀f c es,bL f c es=bu c es:=by
 intro f c es;unfold bu;cases es with
 |nil=>
  rw[EJ,EJ];congr 1;funext x;exact B4 _ _ x
 |cons e es=>
  unfold bL pS;rw[if_neg (by simp),if_neg (by simp)]
section
variable {f:D}{n:Str}{ds:List D}{z:Option D}{bs:List Bool}
theorem qD(Z:n∈bt)(a:Str):fq (mV 1) a [ar f,ar (.exc n ds),none,z]=a_ (.bl (bq n a)):=D9 (ds:=ds) (g:=λn=>bq n a) Z
theorem three(Z:n∈bt)(a b c:Str):aQ (bp (aa (fq (mV 1) a) (aa (fq (mV 1) b) (aa (fq (mV 1) c) ao)))) [ar f,ar (.exc n ds),none,z]=a_ (.fz ([bq n a,bq n b,bq n c].map D.bl)):=by have h:=bb (qD (f:=f) (ds:=ds) (z:=z) Z a) (bb (qD (f:=f) (ds:=ds) (z:=z) Z b) (bb (qD (f:=f) (ds:=ds) (z:=z) Z c) (es:=ao) rfl));show kK (aa _ _ _>>=bx)=_;rw[h,aj];exact e9 (us:=[.bl (bq n a),.bl (bq n b),.bl (bq n c)]) rfl K4
theorem vE{e:TM}{Z:List Bool}(h:e [ar f,ar (.exc n ds),none,ar (.fz (bs.map D.bl))]=a_ (.fz (Z.map D.bl)))(Y:bs.length+Z.length<=100):bC 3 (aQ (aW cy (mV 3) e)) [ar f,ar (.exc n ds),none,ar (.fz (bs.map D.bl))]=a_ (.nx [ar f,ar (.exc n ds),none,ar (.fz ((bs++Z).map D.bl))]):=by refine iB (x:=.fz ((bs++Z).map D.bl)) ?_;show kK (aW cy (mV 3) e _)=_;rw[cg (x:=.fz (bs.map D.bl)) rfl h];show kK (bx (bs.map D.bl++Z.map D.bl))=_;rw[<-NX];exact e9 (rZ _) (by rw[Nl,Nn];unfold lim;omega)
theorem find_eq(S:n∈bt)(Q:bs.length=13):m_find [ar f,ar (.exc n ds),none,ar (.fz (bs.map D.bl))]=a_ (.ret (.fz ((bD 0 13).filter (JV bs)))):=by
 have Y:jQ (eA (bV (DI (mV 1)))) (bF (mK .non)) d4 [ar f,ar (.exc n ds),none,ar (.fz (bs.map D.bl))]=a_ (.nx [ar f,ar (.exc n ds),none,ar (.fz (bs.map D.bl))]):=by
  have:eA (bV (DI (mV 1))) [ar f,ar (.exc n ds),none,ar (.fz (bs.map D.bl))]=a_ false:=by show((wK (λ_=>cn) (.exc n ds)>>=kQ)>>=_)=_;rw[D9 S];rfl
  exact(bU this).trans (if_neg (by decide))
 have U:lX (mK (.int 13)) [ar f,ar (.exc n ds),none,ar (.fz (bs.map D.bl))]=a_ ⟨bD 0 13,.none⟩:=(oX (x:=.int 13) rfl).trans (yV (by omega));have Z:bY 0 (((bD 0 13).filter (JV bs)).map id)=true:=by
  rw[SX];have:∀l:List Nat,bY 0 ((l.map λi:Nat=>D.int (0+(i:Int))).filter (JV bs))=true:=λl=>by
   induction l with
   |nil=>rfl
   |cons x l ih=>
    rw[NH,List.filter_cons];split
    ·unfold bY;rw[ih];unfold fY;rfl
    ·exact ih
  exact this _
 have X:=n6 (g:=gN 0) (t:=eh) (m:=eu) (js:=[none,ar 3]) (λρ=>∃x,ρ=[x,ar (.fz (bs.map D.bl))]) (JV bs) id U (by unfold bD lim;rw[Nl,NS];omega) ⟨none,rfl⟩
  (λd hd ρ ⟨x,hρ⟩=>by
   subst hρ;obtain⟨k,W,rfl⟩:=NL.mp hd;have W:k<13:=NR.mp W;refine⟨_,rfl,⟨_,rfl⟩,?_,λ_=>rfl⟩;have e:jT (bs.map D.bl) (0+(k:Int))=ar (.bl (bs.getD k dt)):=by
    rw[Pj];unfold jT xO;rw[Nl];have Y:¬ ((k:Int)<0):=by omega
    have T:(k:Int)<bs.length:=by omega
    have R:k<bs.length:=by omega
    simp[Y,T,R]
   refine dX ((cg (x:=.fz (bs.map D.bl)) (y:=.int (0+(k:Int))) rfl rfl).trans ?_);show(match jT (bs.map D.bl) (0+(k:Int))with|some d=>(a_ d:M D)|none=>M.fail)=_;rw[e];show a_ (D.bl (bs.getD k dt))=a_ (D.bl (bs.getD (0+(k:Int)).toNat dt));rw[Pj,N5]) Z
 rw[SX]at X;unfold m_find;exact(a7 Y).trans (cL X)
def marks(n:Str):List Bool:=[bq n "NoWeb",bq n "NoPlace",bq n "NoPlaces",bq n "NoSharing",bq n "NoRoot",bq n "NoNumber",bq n "NotJoined",bq n "NoTie",bq n "NoText",bq n "NoLine",bq n "NoDeed",bq n "TooGreat",bq n "NoMap"]
theorem rest_eq(Z:n∈bt):jN [ar f,ar (.exc n ds),none,none]=a_ (.ret (.fz ((bD 0 13).filter (JV (marks n))))):=by
 have X:=iB (i:=3) (three (f:=f) (ds:=ds) (z:=none) Z "NoWeb" "NoPlace" "NoPlaces");have Y:aQ (bp (aa (fq (mV 1) "NoMap") ao)) [ar f,ar (.exc n ds),none,ar (.fz (([bq n "NoWeb",bq n "NoPlace",bq n "NoPlaces"]++[bq n "NoSharing",bq n "NoRoot",bq n "NoNumber"]++[bq n "NotJoined",bq n "NoTie",bq n "NoText"]++[bq n "NoLine",bq n "NoDeed",bq n "TooGreat"]).map D.bl))]=a_ (.fz ([bq n "NoMap"].map D.bl)):=by show kK (aa _ _ _>>=bx)=_;rw[bb (qD Z "NoMap") (es:=ao) rfl,aj];exact e9 (us:=[.bl (bq n "NoMap")]) rfl (by show 1<=lim;unfold lim;omega)
 unfold jN;exact(a7 X).trans ((a7 (vE (bs:=[bq n "NoWeb",bq n "NoPlace",bq n "NoPlaces"]) (three Z "NoSharing" "NoRoot" "NoNumber") (by decide:3+3<=100))).trans ((a7 (vE (bs:=[bq n "NoWeb",bq n "NoPlace",bq n "NoPlaces"]++[bq n "NoSharing",bq n "NoRoot",bq n "NoNumber"]) (three Z "NotJoined" "NoTie" "NoText") (by decide:6+3<=100))).trans ((a7 (vE (bs:=[bq n "NoWeb",bq n "NoPlace",bq n "NoPlaces"]++[bq n "NoSharing",bq n "NoRoot",bq n "NoNumber"]++[bq n "NotJoined",bq n "NoTie",bq n "NoText"]) (three Z "NoLine" "NoDeed" "TooGreat") (by decide:9+3<=100))).trans ((a7 (vE (bs:=[bq n "NoWeb",bq n "NoPlace",bq n "NoPlaces"]++[bq n "NoSharing",bq n "NoRoot",bq n "NoNumber"]++[bq n "NotJoined",bq n "NoTie",bq n "NoText"]++[bq n "NoLine",bq n "NoDeed",bq n "TooGreat"]) Y (by decide:12+1<=100))).trans (find_eq (bs:=marks n) Z rfl)))))
theorem B5(Y:n∈bt)(Z:(bD 0 13).filter (JV (marks n))=us):bu (M.raise (.exc n ds)) []=a_ (.fz us):=by
 unfold bu;rw[EJ];have:si (M.raise (.exc n ds)) (λx=>jN [ar (.fn 0 0 "" [] []),ar x,none,none]>>=outD)=(jN [ar (.fn 0 0 "" [] []),ar (.exc n ds),none,none]>>=outD):=by funext S;show(if n∈bt then _ else none)=_;rw[if_pos Y]
 rw[this,rest_eq Y,Z];rfl
end
theorem GH:bu (M.raise (.exc "NoWeb" [])) []=a_ (.fz [.int 0]):=B5 (by decide) (by rfl)
def vF(a b:Nat):List D:=[.non,.int 0,.tup [],.tup [.int 15,.tup []],.tup [.int (-1),.tup []],.tup [.bl cn,.tup []],.tup [.int 2,.lst a],.lst b,.tup [.int 2,.tup [.tup [.int 1,.int 0]]],.tup [.int 2,.tup [.tup [.int 0,.int 0]]]]
def vG:List D:=[.tup [.int 3,.tup [.tup [.int 0,.int 2],.tup [.int 0,.int 1]]],.tup [.int 2,.tup [.tup [.int 0,.int 1],.tup [.int 0,.int 1]]],.tup [.int 2,.tup [.tup [.int 0,.int 1,.int 1]]],.tup [.int 2,.tup [.tup [.int 0,.bl cn]]],.tup [.int 2]]
def zj:List D:=[.tup [.int 2,.tup [.tup [.int 0,.int 2]]],.str "2:",.emp]
def EK(c:Nat):List D:=[.tup [.int 2,.tup [.lst c]],.tup [.int 2,.tup [],.tup []],.tup [.int 2,.non],.tup [.str "2",.tup []]]
abbrev B6(a b c:Nat):List D:=vF a b++vG++zj++EK c
theorem JG(O:n<=a)(U:n<=b)(T:n<=c)(Q:S[a]? =ar [])(X:S[b]? =ar [.int 2,.tup []])(Z:S[c]? =ar [.int 0,.int 1]):∀d∈B6 a b c,∃u,jI n (xR S n 60) d=ar u/\Good u/\iT u=false:=by
 have I:=o9 (f:=59) O Q rfl;have Y:=o9 (f:=59) U X rfl;have K:=o9 (f:=59) T Z rfl;have J:∀d,fY 0 d=cn->D7 d=cn->iT d=dt->∃u,jI n (xR S n 60) d=ar u/\Good u/\iT u=false:=λd N L P=>⟨d,yR d (DQ (NN _) d N),n8 L,P⟩;have R:∃u,jI n (xR S n 60) (.tup [.int 2,.lst a])=ar u/\Good u/\iT u=false:=⟨.tup [.int 2,.fz []],by unfold jI hU hU hU;rw[I];rfl,n8 rfl,rfl⟩;have W:∃u,jI n (xR S n 60) (.lst b)=ar u/\Good u/\iT u=false:=⟨_,Y,n8 rfl,rfl⟩;have H:∃u,jI n (xR S n 60) (.tup [.int 2,.tup [.lst c]])=ar u/\Good u/\iT u=false:=⟨.tup [.int 2,.tup [.fz [.int 0,.int 1]]],by
  have:jI n (xR S n 60) (.tup [.lst c])=ar (.tup [.fz [.int 0,.int 1]]):=by unfold jI hU hU;rw[K];rfl
  unfold jI hU hU hU;rw[this];rfl,n8 rfl,rfl⟩
 intro d hd;simp only[B6,vF,vG,zj,EK,EW,gc,fc,or_false]at hd;rcases hd with(((rfl|rfl|rfl|rfl|rfl|rfl|rfl|rfl|rfl|rfl)|(rfl|rfl|rfl|rfl|rfl))|(rfl|rfl|rfl))|(rfl|rfl|rfl|rfl)<;>first|exact R|exact W|exact H|exact J _ rfl rfl rfl
def bT(S:az):az:=[[],[.int 2,.tup []],vF S.length (S.length+1),vG,vF S.length (S.length+1)++vG,zj,vF S.length (S.length+1)++vG++zj,[.int 0,.int 1],EK (S.length+7),B6 S.length (S.length+1) (S.length+7)]
theorem GI(Y:aD [.lst k,.int 22] (S++bT S)=ar (.ok (.int j),S'))(Z:S'[S.length+9]? =ar (B6 S.length (S.length+1) (S.length+7)))(X:jT (B6 S.length (S.length+1) (S.length+7)) j=ar d):
  gf [ar (.lst k),none] S=ar (.ok (.ret d),S'):=by
 unfold gf;refine(aL (ρ':=[ar (.lst k),ar (.lst (S.length+2))]) (S1:=S++(bT S).take 3) (bJ (x:=.lst (S.length+2)) ?_)).trans ((aL (ρ':=[ar (.lst k),ar (.lst (S.length+4))]) (S1:=S++(bT S).take 5) (bJ (x:=.lst (S.length+4)) ?_)).trans ((aL (ρ':=[ar (.lst k),ar (.lst (S.length+6))]) (S1:=S++(bT S).take 7) (bJ (x:=.lst (S.length+6)) ?_)).trans ((aL (ρ':=[ar (.lst k),ar (.lst (S.length+9))]) (S1:=S++bT S) (bJ (x:=.lst (S.length+9)) ?_)).trans (eP ?_))))
 ·refine(jk (ys:=vF S.length (S++[[]]).length) (S1:=S++[[]]++[[.int 2,.tup []]]) rfl (by show 10<=lim;unfold lim;omega)).trans ?_;rw[show(S++([[]]:az)).length=S.length+1 from Nn,ND,Nn,ND];rfl
 ·refine(jj (x:=.lst (S.length+2)) rfl (jk (ys:=vG) (S1:=S++(bT S).take 3) rfl (by show 5<=lim;unfold lim;omega))).trans ?_;rw[ND,Nn];refine(vm (xs:=vF S.length (S.length+1)) (ys:=vG) (pY 2) (pY 3) (by show 15<=lim;unfold lim;omega)).trans ?_;rw[ND,Nn];rfl
 ·refine(jj (x:=.lst (S.length+4)) rfl (jk (ys:=zj) (S1:=S++(bT S).take 5) rfl (by show 3<=lim;unfold lim;omega))).trans ?_;rw[ND,Nn];refine(vm (xs:=vF S.length (S.length+1)++vG) (ys:=zj) (pY 4) (pY 5) (by show 18<=lim;unfold lim;omega)).trans ?_;rw[ND,Nn];rfl
 ·refine(jj (x:=.lst (S.length+6)) rfl (jk (ys:=EK (S++(bT S).take 7).length) (S1:=S++(bT S).take 7++[[.int 0,.int 1]]) rfl (by show 4<=lim;unfold lim;omega))).trans ?_;rw[show(S++(bT S).take 7).length=S.length+7 from Nn,ND,ND,Nn];refine(vm (xs:=vF S.length (S.length+1)++vG++zj) (ys:=EK (S.length+7)) (pY 6) (pY 8) (by show 22<=lim;unfold lim;omega)).trans ?_;rw[Nn];exact QL (λx=>ar (Res.ok (D.lst (S.length+9)),x)) (ND _ _ _)
 ·refine(jj (x:=.lst (S.length+9)) (y:=.int j) (S2:=S') rfl ?_).trans (Am Z X);exact Y
theorem JH(hs:eB S k):∃d S1,kK (gh [.lst k]) S=ar (.ok d,S1)/\Good d/\iT d=dt/\Kp k S S1/\S1.length=S.length:=by obtain⟨_,Y,U,j,rfl,W,R,Z⟩:=Ar (Q:=λd Y=>∃j,d= .int j/\0<=j/\j<22/\Kp k (S++bT S) Y) hs.grow (many:=22) (by decide) (by decide) λj Y a b _ X=>⟨j,rfl,a,b,X⟩;have N:=hs.lt;have gt:∀i us,(S++bT S)[S.length+i]? =ar us->Y[S.length+i]? =ar us:=λi us h=>(Z.oth (S.length+i) (Nt.mp h).1 (by omega)).trans h;obtain⟨d,T,hd⟩:=G9 (xs:=B6 S.length (S.length+1) (S.length+7)) W R;have X:Kp k S Y:=(Kp.grow hs _).trans Z;obtain⟨u,O,P,hw⟩:=JG (n:=S.length) (a:=S.length) (b:=S.length+1) (c:=S.length+7) (S:=Y) (Nq _) (Pp _ _) (Pp _ _) (gt 0 _ (pY 0)) (gt 1 _ (pY 1)) (gt 7 _ (pY 7)) d hd;refine⟨u,_,oQ (eQ (GI U (gt 9 _ (pY 9)) T) rfl) (qt X) (.inl ?_) X.len O,P,hw,Au hs X⟩;have:=Z.len;rw[Nn,show(bT S).length=10 from rfl]at this;omega
theorem GJ{c:M D}{S:az}{us:List D}(h:c S=ar (.ok (.lst S.length),S++[us]))(Z:bY 0 us=cn):kK c S=ar (.ok (.fz us),S):=by have:=oQ (u:=.fz us) h (λk xs Y e=>.inl (by rw[<-e,NZ Y])) (.inl (by simp)) (by simp) (o9 (f:=59) (Nq _) cD Z);rw[this,RJ]
theorem EL{it:Iter}{S:az}(Z:it.okS S):fW it S=ar (.ok (),S):=if_pos Z
theorem AR{it:Iter}{g:mw}{t:gz}{m:TM}{f:D->D}{S:az}{R:aF->Prop}(Y:it.okS S):∀(ds:List D) (ρ:aF),R ρ->(∀d∈ds,∀ ρ,R ρ->∃Z,g d ρ=a_ Z/\R Z/\t Z=a_ cn/\m Z S=ar (.ok (f d),S))->cF it g t m ds ρ S=ar (.ok (ds.map f),S)
 |[],ρ,_,_=>by
  unfold cF;rw[aI (EL Y)];rfl
 |d::ds,ρ,hR,h=>by
  obtain⟨Z,e1,X,e2,e3⟩:=h d (.head _) ρ hR;unfold cF;rw[aI (EL Y),e1,aj,e2,aj,if_pos rfl,aI e3,aI (AR Y ds Z X λd hd=>h d (.tail _ hd))];rfl
theorem EM{k p:Nat}{S:az}{us vs:List D}(Y:S[p]? =ar us)(L:us.length=vs.length)(K:vs.length<=100000)(h:∀q∈us.zip vs,aU k [q.1,q.2] S=ar (.ok (.bl cn),S)):aU (k+1) [.lst p,.fz vs] S=ar (.ok (.bl cn),S):=by
 have O:pG (mV 0) (mV 1) [ar (.lst p),ar (.fz vs)] S=ar (.ok ⟨(us.zip vs).map λq:D×D=>D.tup [q.1,q.2],.two p p us us⟩,S):=by show(aa _ _ _>>=Ac) S=_;rw[bb (e:=mV 0) (x:=.lst p) rfl (bb (e:=mV 1) (x:=.fz vs) rfl (es:=ao) rfl),aj];show(zL (.lst p)>>=λx=>zL (.fz vs)>>=λy=>(a_ ⟨(x.1.zip y.1).map λp=>.tup [p.1,p.2],FY x.2 y.2⟩:M Iter)) S=_;rw[aI (show zL (.lst p) S=ar (.ok (us,ar (p,us)),S) by show(getL p>>=_) S=_;rw[aI (cH Y)];rfl)];rfl
 have P:bj (pG (mV 0) (mV 1)) (fV 2 (a9 (gN 0) (a9 (gN 1) eE))) (dh (aU k)) (di (aU k)) [none,none] [ar (.lst p),ar (.fz vs)] S=ar (.ok (.lst S.length),S++[((us.zip vs).map λ_=>cn).map D.bl]):=by
  unfold bj;rw[aI O];have hlen:((us.zip vs).map λq:D×D=>D.tup [q.1,q.2]).length<=lim:=by rw[Nl,RC];unfold lim;omega
  have:=AR (it:=⟨(us.zip vs).map λq:D×D=>D.tup [q.1,q.2],.two p p us us⟩) (g:=fV 2 (a9 (gN 0) (a9 (gN 1) eE))) (t:=dh (aU k)) (m:=di (aU k)) (f:=λ_=>.bl cn) (S:=S) (R:=λρ=>∃x y,ρ=[x,y]) ⟨Y,Y⟩ ((us.zip vs).map λq:D×D=>D.tup [q.1,q.2]) (fS [none,none] [ar (.lst p),ar (.fz vs)]) ⟨none,none,rfl⟩ (λd hd ρ X=>by obtain⟨x,y,rfl⟩:=X;obtain⟨q,Q,rfl⟩:=NL.mp hd;refine⟨[ar q.1,ar q.2],rfl,⟨_,_,rfl⟩,rfl,?_⟩;show kK (au _ _ _) S=_;rw[call2 (x:=q.1) (y:=q.2) rfl rfl];exact Av (h q Q))
  unfold eV;rw[if_pos hlen,aI this];rw[show EA (λ_=>D.bl cn) (EA (λq:D×D=>D.tup [q.1,q.2]) (us.zip vs))=((us.zip vs).map λ_=>cn).map D.bl by rw[NK,NK];rfl];exact cM (by rw[Nl,Nl];rw[Nl]at hlen;exact hlen)
 have N:aQ (bj (pG (mV 0) (mV 1)) (fV 2 (a9 (gN 0) (a9 (gN 1) eE))) (dh (aU k)) (di (aU k)) [none,none]) [ar (.lst p),ar (.fz vs)] S=ar (.ok (.fz (((us.zip vs).map λ_=>cn).map D.bl)),S):=GJ P (rZ _);have Z:((us.zip vs).map λ_=>cn).all id=true:=by rw[QA];exact N6.mpr λ_ _=>rfl
 have W:∀T,eS mB (iq (mV 0) T) (iq (mV 1) T) [ar (.lst p),ar (.fz vs)]=a_ false:=λT=>cU (x:=.bl (jm "list" T)) (y:=.bl (jm "list" T)) rfl rfl MF;have U:xQ (eS mB (iq (mV 0) "tuple") (iq (mV 1) "tuple")) (eS mB (iq (mV 0) "list") (iq (mV 1) "list")) [ar (.lst p),ar (.fz vs)]=a_ false:=by show(eS mB _ _ _>>=_)=_;rw[W "tuple",aj];exact W "list"
 have hle:eS mB (de dm (mV 0)) (de dm (mV 1)) [ar (.lst p),ar (.fz vs)] S=ar (.ok dt,S):=by refine vy (x:=.int us.length) (y:=.int vs.length) ?_ (S2:=S) rfl (by rw[L];exact MW);rw[j5 (x:=.lst p) (S1:=S) rfl];show(getL p>>=_) S=_;rw[aI (cH Y)];rfl
 refine eQ (o:=.ret (.bl cn)) ?_ rfl;show cC _ [ar (.lst p),ar (.fz vs)] S=_;unfold cC;show(jQ _ _ _ _>>=_) S=_;refine aI (a:=Out.ret (.bl cn)) ?_;refine(N0 (bU (b:=cn) (dX rfl)) S).trans ?_;rw[if_pos rfl];refine(N0 (a7 (AB U)) S).trans ((aL ((pN hle).trans (if_neg (by decide)))).trans (eP ?_));rw[j5 N,sd,Z];rfl
theorem Lv{e:TM}{ρ:aF}{S S1:az}(h:e ρ S=ar (.ok (.bl cn),S1)):eA (bV e) ρ S=ar (.ok dt,S1):=by show((e ρ>>=kQ)>>=λb=>a_ (!b)) S=_;rw[aI (show(e ρ>>=kQ) S=ar (.ok cn,S1) by rw[aI h];rfl)];rfl
theorem EN{t:gz}{m:cw}{ρ:aF}{S S1:az}(h:t ρ S=ar (.ok dt,S1)):jQ t m d4 ρ S=ar (.ok (.nx ρ),S1):=(pN h).trans (if_neg (by decide))
theorem GK{k:Nat}{l:List Int}:∀x∈l.map D.int,aU (k+1) [x,x]=a_ (.bl cn):=λx Z=>by obtain⟨i,_,rfl⟩:=NL.mp Z;exact same_int
theorem uo:∀{l:List D} {q:D×D},q∈l.zip l->q.1=q.2/\q.1∈l
 |[],q,h=>by cases h
 | x::l,q,h=>by
  rw[Qb]at h;rcases NJ.mp h with rfl|h
  ·exact⟨rfl,.head _⟩
  ·obtain⟨Z,Y⟩:=uo h;exact⟨Z,.tail _ Y⟩
theorem xx{k p:Nat}{S:az}{v:List D}(Y:S[p]? =ar v)(U:v.length<=100000)(h:∀x∈v,aU k [x,x]=a_ (.bl cn)):aU (k+1) [.lst p,.fz v] S=ar (.ok (.bl cn),S):=
 EM Y rfl U λq X=>by obtain⟨W,Z⟩:=uo X;rw[<-W,h _ Z];rfl
abbrev z0:D:=.fz [.int 0]
theorem JI{k:Nat}{ρ:aF}(W:k<=50):aQ (aW xa (bp (aa (aQ (bp (aa (mK (.int 0)) ao))) ao)) (mK (.int k))) ρ=a_ (.fz (ey k z0)):=by
 have Y:aQ (bp (aa (mK (.int 0)) ao)) ρ=a_ z0:=Jj;have Z:bY 0 (ey k z0)=true:=by
  induction k with
  |zero=>rfl
  |succ k ih=>rw[On];unfold bY;rw[ih (by omega)];rfl
 refine nX Z λS=>?_;have X:bp (aa (aQ (bp (aa (mK (.int 0)) ao))) ao) ρ S=ar (.ok (.lst S.length),S++[[z0]]):=jk (ys:=[z0]) (S1:=S) (N0 (bb Y (es:=ao) rfl) S) (by show 1<=lim;unfold lim;omega);have hf:(ey k [z0]).flatten=ey k z0:=by
  induction k with
  |zero=>rfl
  |succ k ih=>rw[On,O3,ih (by omega) (by unfold ey bY at Z;exact(Pf.mp Z).2),On];rfl
 refine⟨.lst (S++[[z0]]).length,S++[[z0]]++[ey k z0],?_,[[z0],ey k z0],(S++[[z0]]).length,rfl,by rw[ND];rfl,cD,by rw[Nn];omega⟩;rw[jj X (y:=.int k) (S2:=S++[[z0]]) rfl];show(getL S.length>>=λxs=>if -(2 ^ 62)<=(k:Int)/\(k:Int)<=1000/\xs.length<=1000 then bx (ey (k:Int).toNat xs).flatten else M.fail) _=_;rw[aI (cH cD),if_pos ⟨by omega,by omega,by show 1<=1000;decide⟩,N5,hf];exact cM (by rw[List.length_replicate];unfold lim;omega)
theorem EO{k:Nat}:aU (k+1) [.non,.non]=a_ (.bl cn):=by
 refine dj (o:=.ret (.bl cn)) ?_ rfl;show cC _ [ar .non,ar .non]=_;unfold cC;rw[a7 (ρ':=[ar .non,ar .non]) ((bU (b:=dt) (dX rfl)).trans (if_neg (by decide)))];refine cL ?_;have Z:oE .non .non=a_ (.bl cn):=by funext S;show(match gw S 60 .non,gw S 60 .non with|some p,ar q=>ar (Res.ok (D.bl (f_ p q)),S)|_,_=>none)=_;rfl
 show(aW oE (mV 0) (mV 1) _>>=_)=_;rw[cg (x:=.non) (y:=.non) rfl rfl,Z,aj];rw[show kQ (D.bl cn)=a_ cn from rfl,aj,if_pos rfl,cg (x:=.bl dt) (y:=.bl dt) rfl rfl,MV]
theorem oh{k:Nat}{r:List Int}(h:r.length<=1000):aU (k+2) [tupI r,tupI r]=a_ (.bl cn):=xh (by rw[Nl];exact h) GK
theorem JJ{f:D->List D->M D}{e1 e2:TM}{ρ:aF}{S:az}{x y:D}(Y:e1 ρ S=ar (.ok x,S))(X:Ih x=a_ ())(Z:e2 ρ=a_ y):wC f e1 e2 ρ S=f x [y] S:=by unfold wC;rw[aI Y,X,aj,Z];rfl
section
variable {n:Nat}{E:List (List Int)}{a0 a1 a2 x5 x6 x7 x8:Option D}
theorem GL{s:List Int}(h:s∈cV n E):s.length<=1000:=by unfold cV at h;obtain⟨p,_,h⟩:=QE.mp h;obtain⟨c,Z,rfl⟩:=NL.mp h;have:=(su (OE.mp Z).1).1;rw[NU];omega
def my(n:Nat)(E:List (List Int)):D:=.fz [.fz ((cV n E).map tupI),.fz ((ff n E).map tupI)]
theorem Hd{S:az}{k t:Nat}(W:n<=14)(w:WebOk n E)(hs:eB S k)(O:t<2):∃y6 S1,lE [a0,a1,a2,ar (aA n E),ar (my n E),ar (.int (t:Int)),x6,x7,x8] S=ar (.ok (.nx [a0,a1,a2,ar (aA n E),ar (my n E),ar (.int (t:Int)),y6,x7,x8]),S1)/\Kp k S S1:=by
 have G:=uj (E:=E) W;have H:=qA W w;have e1:au kz (aa (mV 3) ao) [a0,a1,a2,ar (aA n E),ar (my n E),ar (.int (t:Int)),x6,x7,x8] S=ar (.ok (.lst S.length),S++[(cV n E).map tupI]):=by rw[dW (x:=aA n E) rfl];exact El W w S
 have e2:au bf (aa (mV 3) ao) [a0,a1,a2,ar (aA n E),ar (my n E),ar (.int (t:Int)),x6,x7,x8] (S++[(cV n E).map tupI])=ar (.ok (.lst (S.length+1)),S++[(cV n E).map tupI]++[(ff n E).map tupI]):=by rw[dW (x:=aA n E) rfl,Ew W w,Nn];rfl
 have e3:=jk (ys:=[D.lst S.length,.lst (S.length+1)]) (cb e1 (cb e2 (es:=ao) rfl)) sX;generalize hS1:S++[(cV n E).map tupI]++[(ff n E).map tupI]++[[D.lst S.length,.lst (S.length+1)]]=S1 at e3;have Z:S1=S++[(cV n E).map tupI,(ff n E).map tupI,[D.lst S.length,.lst (S.length+1)]]:=by rw[<-hS1,ND,ND];rfl
 have N:(S++[(cV n E).map tupI]++[(ff n E).map tupI]).length=S.length+2:=by simp
 rw[N]at e3;have P:S1[S.length]? =ar ((cV n E).map tupI):=by rw[Z];simp
 have g1:S1[S.length+1]? =ar ((ff n E).map tupI):=by rw[Z];simp
 have g2:S1[S.length+2]? =ar [D.lst S.length,.lst (S.length+1)]:=by rw[Z];simp
 have J:S1.length=S.length+3:=by rw[Z];simp
 have s0:aU 5 [.lst S.length,.fz ((cV n E).map tupI)] S1=ar (.ok (.bl cn),S1):=xx (k:=4) P (by rw[Nl];omega) λx X=>by obtain⟨r,U,rfl⟩:=NL.mp X;exact oh (k:=2) (GL U)
 have s1:aU 5 [.lst (S.length+1),.fz ((ff n E).map tupI)] S1=ar (.ok (.bl cn),S1):=xx (k:=4) g1 (by rw[Nl];omega) λx X=>by obtain⟨r,U,rfl⟩:=NL.mp X;exact oh (k:=2) (by rw[(mn w U).2];decide)
 have Y:eO [.lst (S.length+2),my n E] S1=ar (.ok (.bl cn),S1):=EM (k:=5) g2 rfl (by show 2<=100000;decide) λq Q=>by
  simp only[J',List.zip_nil_right,gc,fc,or_false]at Q;rcases Q with rfl|rfl
  ·exact s0
  ·exact s1
 have L:aQ (au eO (aa (mV 6) (aa (mV 4) ao))) [a0,a1,a2,ar (aA n E),ar (my n E),ar (.int (t:Int)),ar (.lst (S.length+2)),x7,x8] S1=ar (.ok (.bl cn),S1):=by refine Av ?_;rw[call2 (x:=.lst (S.length+2)) (y:=my n E) rfl rfl];exact Y
 have X:∃xs,S1[S.length+t]? =ar xs/\xs.length<=100000:=by
  match t,O with
  |0,_=>exact⟨_,P,by rw[Nl];omega⟩
  |1,_=>exact⟨_,g1,by rw[Nl];omega⟩
 obtain⟨xs,R,I⟩:=X;have T:aW bE (mV 6) (mV 5) [a0,a1,a2,ar (aA n E),ar (my n E),ar (.int (t:Int)),ar (.lst (S.length+2)),x7,x8] S1=ar (.ok (.lst (S.length+t)),S1):=by
  rw[cg (x:=.lst (S.length+2)) (y:=.int (t:Int)) rfl rfl];refine Am g2 ?_
  match t,O with
  |0,_=>rfl
  |1,_=>rfl
 have K:Kp k S (S1.set (S.length+t) (xs++[.tup []])):=Kp.set (by rw[Z];exact Kp.grow hs _) (by omega) hs.lt;refine⟨ar (.lst (S.length+2)),_,?_,K⟩;unfold lE;refine(aL (ρ':=[a0,a1,a2,ar (aA n E),ar (my n E),ar (.int (t:Int)),ar (.lst (S.length+2)),x7,x8]) (bJ e3)).trans ((aL (EN (Lv L))).trans (mG (x:=.non) ((JJ (x:=.lst (S.length+t)) (y:=.tup []) T rfl rfl).trans ?_)));show(getL _>>=λxs=>mx _ (xs++[D.tup []])) S1=_;rw[aI (cH R),kB (by rw[Nn];show xs.length+1<=lim;unfold lim;omega) (by omega)]
theorem Lw{ρ:aF}(Z:n<=14)(w:WebOk n E)(Y:mV 3 ρ=a_ (aA n E)):aQ (bp (aa (aQ (au dI (aa (mV 3) ao))) (aa (aQ (au fO (aa (mV 3) ao))) ao))) ρ=a_ (my n E):=by
 have U:aQ (au dI (aa (mV 3) ao)) ρ=a_ (.fz ((cV n E).map tupI)):=by unfold aQ;rw[dW Y];exact Er Z
 have W:aQ (au fO (aa (mV 3) ao)) ρ=a_ (.fz ((ff n E).map tupI)):=by unfold aQ;rw[dW Y];exact JE Z w
 refine things (bb U (bb W (es:=ao) rfl)) ?_ (by show 2<=50;decide);refine sv λx X=>?_;simp only[gc,fc,or_false]at X;rcases X with rfl|rfl
 ·unfold fY;exact cY _
 ·unfold fY;exact cY _
theorem GN{ρ:aF}(Z:n<=14)(w:WebOk n E)(Y:mV 3 ρ=a_ (aA n E))(U:mV 4 ρ=a_ (my n E)):aQ (au eO (aa (aQ (au eN (aa (mV 3) ao))) (aa (aQ (au fR (aa (mV 3) (aa (aW bE (mV 4) (mK (.int 1))) ao)))) ao))) ρ=a_ (.bl cn):=by
 have T:aQ (au eN (aa (mV 3) ao)) ρ=a_ (um (og E (ff n E))):=kA ((dW Y).trans (B3 Z w));have W:aQ (au fR (aa (mV 3) (aa (aW bE (mV 4) (mK (.int 1))) ao))) ρ=a_ (um (og E (ff n E))):=kA ((call2 Y ((cg U (y:=.int 1) rfl).trans rfl)).trans (GG (λs hs=>mn w hs) (by have:=qA Z w;omega)));refine kA ((call2 T W).trans ?_);cases h:og E (ff n E)with
 |none=>exact EO (k:=5)
 |some p=>
  have hm:=qC (Q3 h);refine xh (k:=5) (by show 2<=1000;decide) λx X=>?_;simp only[gc,fc,or_false]at X;rcases X with rfl|rfl
  ·exact oh (k:=3) (by rw[(mn w hm.1).2];decide)
  ·exact oh (k:=3) (by rw[(mn w hm.2).2];decide)
end
section
variable {d:D}
theorem xy(g:Good d)(Z:iT d=dt):cS [d]=M.raise (.exc "NoWeb" []):=by rw[D8 g.nr (λm Y z=>Nv (g.few m Y z) (by decide)),if_neg (by rw[Z];decide)]
theorem B7(g:Good d)(Z:iT d=dt):kz [d]=M.raise (.exc "NoWeb" []):=j4 (nh (xc (Jc ((dW rfl).trans (xy g Z)))))
theorem AS(g:Good d)(Z:iT d=dt):bf [d]=M.raise (.exc "NoWeb" []):=j4 (nh (xc (Jc ((dW rfl).trans (xy g Z)))))
theorem ER(g:Good d)(X:iT d=dt):eN [d]=M.raise (.exc "NoWeb" []):=by
 refine j4 (nh ?_);have Y:aQ (au bf (aa (mV 0) ao)) [ar d,none,none]=M.raise (.exc "NoWeb" []):=Jc ((dW rfl).trans (AS g X));have Z:aQ (au bG (aa (aQ (au bf (aa (mV 0) ao))) (aa (mK (.int 2)) ao))) [ar d,none,none]=M.raise (.exc "NoWeb" []):=by
  refine Jc ?_;show(aa _ _ _>>=bG)=_;have:aa (aQ (au bf (aa (mV 0) ao))) (aa (mK (.int 2)) ao) [ar d,none,none]=M.raise (.exc "NoWeb" []):=by show(aQ _ _>>=_)=_;rw[Y];rfl
  rw[this];rfl
 show ir _ _ _ [ar d,none,none]=_;unfold ir bX;rw[Z];rfl
theorem GO{ρ:aF}(g:Good d)(Z:iT d=dt)(R:yJ [7] ρ=ar [d])(S:az):∃G,eS mB (ja [([7],ib),([7],ic),([7],ie)] bu) (aQ (aW xa (bp (aa (aQ (bp (aa (mK (.int 0)) ao))) ao)) (mK (.int 3)))) ρ S=ar (.ok dt,S++G):=by
 have c1:ib [ar d]=M.raise (.exc "NoWeb" []):=Jc ((dW rfl).trans (B7 g Z));have Q:ic [ar d]=M.raise (.exc "NoWeb" []):=Jc ((dW rfl).trans (AS g Z));have c3:ie [ar d]=M.raise (.exc "NoWeb" []):=Jc ((dW rfl).trans (ER g Z));have Y:mF [([7],ib),([7],ic),([7],ie)] ρ=ar [M.raise (.exc "NoWeb" []),M.raise (.exc "NoWeb" []),M.raise (.exc "NoWeb" [])]:=by unfold mF mF mF mF;rw[R];show ar [ib [ar d],ic [ar d],ie [ar d]]=_;rw[c1,Q,c3]
 have U:pW bu [M.raise (.exc "NoWeb" []),M.raise (.exc "NoWeb" []),M.raise (.exc "NoWeb" [])]=a_ [z0,z0,z0]:=by unfold pW pW pW pW;rw[GH,aj];rfl
 have W:ja [([7],ib),([7],ic),([7],ie)] bu ρ S=ar (.ok (.lst S.length),S++[[z0,z0,z0]]):=by unfold ja;rw[Y];show(pW _ _>>=bx) S=_;rw[U,aj];exact cM K4
 refine⟨[[z0,z0,z0]],?_⟩;show(aW mB _ _ ρ>>=kQ) S=_;have T:gw (S++[[z0,z0,z0]]) 60 (.lst S.length)=ar (.list [.list [.int 0],.list [.int 0],.list [.int 0]]):=by show((S++[[z0,z0,z0]])[S.length]?).bind (λxs=>(mapP (gw (S++[[z0,z0,z0]]) 59) xs).map wG)=_;rw[cD];rfl
 have X:gw (S++[[z0,z0,z0]]) 60 (.fz (ey 3 z0))=ar (.list [.list [.int 0],.list [.int 0],.list [.int 0]]):=rfl;have e:aW mB (ja [([7],ib),([7],ic),([7],ie)] bu) (aQ (aW xa (bp (aa (aQ (bp (aa (mK (.int 0)) ao))) ao)) (mK (.int 3)))) ρ S=ar (.ok (.bl dt),S++[[z0,z0,z0]]):=by rw[jj W (N0 (show aQ (aW xa (bp (aa (aQ (bp (aa (mK (.int 0)) ao))) ao)) (mK (.int 3))) ρ=_ from JI (k:=3) (by decide)) _)];unfold mB Ia;rw[T,X];simp[f_,u_]
 rw[aI e];rfl
end
theorem MO{ds:List D}{j:Int}(X:0<=j)(Y:j<ds.length):∃d∈ds,bE (.fz ds) (.int j)=a_ d:=by
 have Z:j.toNat<ds.length:=by omega
 have e:jT ds j=ar ds[j.toNat]:=by unfold jT xO;rw[if_pos X,if_pos Y,Pu,Np Z]
 refine⟨ds[j.toNat],Ot Z,?_⟩;show(match jT ds j with|some d=>(a_ d:M D)|none=>M.fail)=_;rw[e]
theorem JK{S:az}{ns:List Int}{i:Nat}{o2 o3 o4 o5 o6 o7 o8:Option D}:∃x2 x3 x4 x5 x6 x7 x8 S1,lF [ar (.ro (ns.map D.int)),ar (.int i),o2,o3,o4,o5,o6,o7,o8] S=ar (.ok (.nx [ar (.ro (ns.map D.int)),ar (.int i),x2,x3,x4,x5,x6,x7,x8]),S1):=by
 obtain⟨_,_,P,xs,rfl,rfl,hs⟩:=Gg (S:=S) (ns:=ns) (k:=i) (Q:=λd B=>∃xs,d= .lst S.length/\B=S++[xs]/\eB (S++[xs]) S.length) λxs h=>⟨xs,rfl,rfl,h⟩;generalize S++[xs]=T0 at P hs;generalize S.length=k at P hs;have u:aQ (bp (aS (mK (.int 7)) (aS (mK (.int 14)) (aS (mK (.int 10)) (aS (mK (.int 8)) ao))))) [ar (.ro (ns.map D.int)),ar (.int i),ar (.lst k),o3,o4,o5,o6,o7,o8]=a_ (.fz [.int 7,.int 14,.int 10,.int 8]):=things (us:=[.int 7,.int 14,.int 10,.int 8]) rfl rfl (by show 4<=50;decide);obtain⟨j,N,e1,z,I,k1,o⟩:=oa (e1:=mV 2) (e2:=mK (.int 4)) (ρ:=[ar (.ro (ns.map D.int)),ar (.int i),ar (.lst k),o3,o4,o5,o6,o7,o8]) (m:=4) hs rfl rfl (by decide) (by decide);obtain⟨g,L,r⟩:=MO (ds:=[.int 7,.int 14,.int 10,.int 8]) z I;have W:∃gm:Nat,g= .int (gm:Int)/\7<=gm/\gm<=14:=by
  simp only[gc,fc,or_false]at L;rcases L with rfl|rfl|rfl|rfl
  ·exact⟨7,rfl,by decide,by decide⟩
  ·exact⟨14,rfl,by decide,by decide⟩
  ·exact⟨10,rfl,by decide,by decide⟩
  ·exact⟨8,rfl,by decide,by decide⟩
 obtain⟨gm,rfl,s,T⟩:=W;obtain⟨n,E,J,e2,Y,w,U⟩:=Ju s T k1.st;have e3:aW bE (aQ (bp (aS (mK (.int 7)) (aS (mK (.int 14)) (aS (mK (.int 10)) (aS (mK (.int 8)) ao)))))) (aQ (au aD (aa (mV 2) (aa (mK (.int 4)) ao)))) [ar (.ro (ns.map D.int)),ar (.int i),ar (.lst k),o3,o4,o5,o6,o7,o8] T0=ar (.ok (.int (gm:Int)),N):=(jj (N0 u T0) e1).trans (N0 r N);obtain⟨O,q,k2,l⟩:=sj (c:=au fP (aa (mV 2) (aa (aW bE (aQ (bp (aS (mK (.int 7)) (aS (mK (.int 14)) (aS (mK (.int 10)) (aS (mK (.int 8)) ao)))))) (aQ (au aD (aa (mV 2) (aa (mK (.int 4)) ao))))) ao)) [ar (.ro (ns.map D.int)),ar (.int i),ar (.lst k),o3,o4,o5,o6,o7,o8]) (d:=aA n E) hs (by show(aa _ _ _>>=fP) T0=_;rw[aI (cb (x:=.lst k) (S1:=T0) rfl (cb e3 (es:=ao) rfl))];exact e2) (k1.trans U) sm
 obtain⟨C,f,f1,k3⟩:=Hd (n:=n) (E:=E) (a0:=ar (.ro (ns.map D.int))) (a1:=ar (.int i)) (a2:=ar (.lst k)) (t:=0) (x6:=o6) (x7:=o7) (x8:=o8) Y w k2.st (by decide);obtain⟨Z,X,f2,A⟩:=Hd (n:=n) (E:=E) (a0:=ar (.ro (ns.map D.int))) (a1:=ar (.int i)) (a2:=ar (.lst k)) (t:=1) (x6:=C) (x7:=o7) (x8:=o8) Y w k3.st (by decide);have H:dC ⟨(d_ 2).map λi:Nat=>D.int (i:Int),.none⟩ (gN 5) lE ((d_ 2).map λi:Nat=>D.int (i:Int)) [ar (.ro (ns.map D.int)),ar (.int i),ar (.lst k),ar (aA n E),ar (my n E),o5,o6,o7,o8] O=ar (.ok (.nx [ar (.ro (ns.map D.int)),ar (.int i),ar (.lst k),ar (aA n E),ar (my n E),ar (.int ((1:Nat):Int)),Z,o7,o8]),X):=by show dC _ _ _ [D.int ((0:Nat):Int),D.int ((1:Nat):Int)] _ _=_;rw[d6 rfl f1,d6 rfl f2,da];rfl
 obtain⟨d,R,p,K,v,k5,b⟩:=JH A.st;obtain⟨G,F⟩:=GO (ρ:=[ar (.ro (ns.map D.int)),ar (.int i),ar (.lst k),ar (aA n E),ar (my n E),ar (.int ((1:Nat):Int)),Z,ar d,none]) K v rfl R;refine⟨ar (.lst k),ar (aA n E),ar (my n E),ar (.int ((1:Nat):Int)),Z,ar d,none,R++G,?_⟩;unfold lF;refine(aL (ρ':=[ar (.ro (ns.map D.int)),ar (.int i),ar (.lst k),o3,o4,o5,o6,o7,o8]) (S1:=T0) (bJ (x:=.lst k) ?_)).trans ((aL (bJ (e:=aQ (au fP (aa (mV 2) (aa (aW bE (aQ (bp (aS (mK (.int 7)) (aS (mK (.int 14)) (aS (mK (.int 10)) (aS (mK (.int 8)) ao)))))) (aQ (au aD (aa (mV 2) (aa (mK (.int 4)) ao))))) ao)))) q)).trans ((N0 (a7 (iB (Lw Y w rfl))) O).trans ((aL (gI (xp (n:=2) rfl (by decide)) H)).trans ((N0 (a7 (AB (nb (GN Y w rfl rfl)))) X).trans ((aL (ρ':=[ar (.ro (ns.map D.int)),ar (.int i),ar (.lst k),ar (aA n E),ar (my n E),ar (.int ((1:Nat):Int)),Z,ar d,o8]) (bJ (x:=d) (S1:=R) ?_)).trans ((aL (EN F)).trans rfl))))))
 ·rw[call2 (x:=.ro (ns.map D.int)) (y:=.int i) rfl rfl];exact P
 ·show kK (au _ _ _) X=_;rw[dW (x:=.lst k) rfl];exact p
theorem xA{its:List D}{ns:List Int}:∀(ts:List Nat) (o1 o2 o3 o4 o5 o6 o7 o8:Option D) (S:az),∃x1 Z x3 x4 x5 x6 x7 x8 S1,dC ⟨its,.none⟩ (gN 1) lF (ts.map λi:Nat=>.int (0+(i:Int))) [ar (.ro (ns.map D.int)),o1,o2,o3,o4,o5,o6,o7,o8] S=ar (.ok (.nx [ar (.ro (ns.map D.int)),x1,Z,x3,x4,x5,x6,x7,x8]),S1)
 |[],o1,o2,o3,o4,o5,o6,o7,o8,S=>⟨o1,o2,o3,o4,o5,o6,o7,o8,S,by rw[Ov,da];rfl⟩
 |t::ts,o1,o2,o3,o4,o5,o6,o7,o8,S=>by
  obtain⟨Z,x3,x4,x5,x6,x7,x8,S1,h⟩:=JK (S:=S) (ns:=ns) (i:=t) (o2:=o2) (o3:=o3) (o4:=o4) (o5:=o5) (o6:=o6) (o7:=o7) (o8:=o8);obtain⟨U,P,T,Q,W,O,R,X,S2,Y⟩:=xA (its:=its) (ns:=ns) ts (ar (.int t)) Z x3 x4 x5 x6 x7 x8 S1;refine⟨U,P,T,Q,W,O,R,X,S2,?_⟩;rw[NH,Pj];exact(d6 rfl h).trans Y
theorem Lx{S:az}{ns:List Int}:runs (t9 [.ro (ns.map D.int)]) S (λd _=>d= .bl cn):=by
 have hm:au minD (aa (de dm (mV 0)) (aa (mK (.int 6)) ao)) [ar (.ro (ns.map D.int)),none,none,none,none,none,none,none,none]=a_ (.int (if (6:Int)<(ns.map D.int).length then 6 else (ns.map D.int).length)):=(call2 (x:=.int (ns.map D.int).length) (y:=.int 6) rfl rfl).trans rfl;have Z:au maxD (aa (mK (.int 1)) (aa (au minD (aa (de dm (mV 0)) (aa (mK (.int 6)) ao))) ao)) [ar (.ro (ns.map D.int)),none,none,none,none,none,none,none,none]=a_ (.int (if (if (6:Int)<(ns.map D.int).length then (6:Int)else (ns.map D.int).length)>1 then (if (6:Int)<(ns.map D.int).length then 6 else (ns.map D.int).length)else 1)):=(call2 (x:=.int 1) rfl hm).trans rfl;generalize hn:(if (if (6:Int)<(ns.map D.int).length then (6:Int)else (ns.map D.int).length)>1 then (if (6:Int)<(ns.map D.int).length then (6:Int)else (ns.map D.int).length)else 1)=n at Z;have Y:n<=6:=by rw[<-hn];split<;>split<;>omega
 have W:1<=n:=by rw[<-hn];split<;>split<;>omega
 have X:=(oX Z).trans (yV (by omega));obtain⟨U,T,x3,x4,x5,x6,x7,x8,S1,hf⟩:=xA (its:=bD 0 n.toNat) (ns:=ns) (d_ n.toNat) none none none none none none none none S;refine⟨.bl cn,S1,eQ (o:=.ret (.bl cn)) ?_ rfl,rfl⟩;unfold D0;exact(aL (gI X hf)).trans (N0 (cL (x:=.bl cn) rfl) S1)
def top(i:Nat):Stmt:=PySem.Challenge.pw_tiewebs_k51_claws_and_odd_threes.main.body.getD i (.Pass ⟨0,0,0,0⟩)
structure Txt(K:c_)(mg:Str->Option aC):Prop where
 err:lj K=cn
 dk:MD K=cn
 b_ValueError:mg "ValueError"=none
 b_all:mg "all"=none
 b_any:mg "any"=none
 b_bool:mg "bool"=none
 b_enumerate:mg "enumerate"=none
 b_int:mg "int"=none
 b_isinstance:mg "isinstance"=none
 b_len:mg "len"=none
 b_list:mg "list"=none
 b_max:mg "max"=none
 b_min:mg "min"=none
 b_range:mg "range"=none
 b_set:mg "set"=none
 b_sorted:mg "sorted"=none
 b_tuple:mg "tuple"=none
 b_zip:mg "zip"=none
 g_MOST_PLACES:∃t,mg "MOST_PLACES"=ar (.int 14 t)
 g_PLACES_OF_A_THREE:∃t,mg "PLACES_OF_A_THREE"=ar (.int 3 t)
theorem kR{N P:List Str}{Z:Scope}(a:Z.kind= .function:=by exact rfl)(b:Z.isCoroutine=false:=by exact rfl)(c:Z.isGenerator=false:=by exact rfl)(d:N.Nodup:=by decide+kernel)(e:N.take P.length=P:=by exact rfl)(f:∀x∈P,Z.names.lookup x=ar .local\/Z.names.lookup x=ar .cell:=by decide+kernel)(g:∀y∈Z.names,y.2≠ .free:=by decide+kernel):FnScope N P Z:=⟨a,b,c,d,e,f,g⟩
theorem xB:FnScope ["thing"] ["thing"] (av (top 17)):=kR
theorem zl:FnScope ["thing"] ["thing"] (av (top 18)):=kR
theorem vH:FnScope ["things"] ["things"] (av (top 21)):=kR
theorem xC:FnScope ["web","one","other"] ["web","one","other"] (av (top 26)):=kR
theorem vI:FnScope ["_law_web_here","_law_one","_law_other"] ["_law_web_here","_law_one","_law_other"] (av (top 40)):=kR
theorem pZ:FnScope ["_law_script","_law_k"] ["_law_script","_law_k"] (av (top 41)):=kR
theorem iW:FnScope ["_law_state_here","_law_many","_law_found","_law_stirred"] ["_law_state_here","_law_many"] (av (top 43)):=kR
theorem gk:FnScope ["_law_web_here","_law_ties","_law_found","_law_a","_law_b"] ["_law_web_here"] (av (top 45)):=kR
theorem gZ:FnScope ["_law_web_here","_law_names","_law_ties","_law_a","_law_b"] ["_law_web_here","_law_names"] (av (top 48)):=kR
theorem xD:FnScope ["many","thing"] ["many","thing"] (av (top 19)):=kR
theorem ES:FnScope ["web","some","place"] ["web","some","place"] (av (top 29)):=kR
theorem oj:FnScope ["web","three","place","many"] ["web","three","place"] (av (top 35)):=kR
theorem jl:FnScope ["web","one","other","of_one","of_other"] ["web","one","other"] (av (top 37)):=kR
theorem mJ:FnScope ["_law_script","_law_k","_law_cell"] ["_law_script","_law_k"] (av (top 42)):=kR
theorem jO:FnScope ["_law_state_here","_law_many","_law_often","_law_ties","_law_a"] ["_law_state_here","_law_many","_law_often"] (av (top 44)):=kR
theorem jP:FnScope ["_law_state_here","_law_many","_law_left","_law_found"] ["_law_state_here","_law_many"] (av (top 46)):=kR
theorem kM:FnScope ["_law_state_here","_law_some"] ["_law_state_here"] (av (top 51)):=kR
theorem c9:FnScope ["_law_web_here","_law_found","_law_a","_law_some","_law_b","_law_later","_law_c"] ["_law_web_here"] (av (top 53)):=kR
theorem eR:FnScope ["_law_web_here","_law_found","_law_a","_law_b","_law_c","_law_others","_law_marks"] ["_law_web_here"] (av (top 54)):=kR
theorem iX:FnScope ["_law_web_here","_law_some","_law_at","_law_other","_law_alone"] ["_law_web_here","_law_some"] (av (top 55)):=kR
theorem pv:FnScope ["many","thing","low","high"] ["many","thing"] (av (top 20)):=kR
theorem B8:FnScope ["web"] ["web"] (av (top 34)):=kR
theorem bA:FnScope ["_law_state_here","_law_most","_law_many","_law_some","_law_ties","_law_at","_law_one","_law_other","_law_turn","_law_a","_law_b"] ["_law_state_here","_law_most"] (av (top 47)):=kR
theorem pA:FnScope ["thing","many","ties"] ["thing"] (av (top 22)):=kR
theorem dy:FnScope ["_law_state_here","_law_most","_law_way","_law_many","_law_web_here","_law_a","_law_b","_law_ties"] ["_law_state_here","_law_most"] (av (top 49)):=kR
theorem xE:FnScope ["thing"] ["thing"] (av (top 23)):=kR
theorem sY:FnScope ["web","place"] ["web","place"] (av (top 24)):=kR
theorem zm:FnScope ["things","size"] ["things","size"] (av (top 25)):=kR
theorem sZ:FnScope ["web"] ["web"] (av (top 36)):=kR
theorem GP:FnScope ["web","place"] ["web","place"] (av (top 27)):=kR
theorem vJ:FnScope ["web","some"] ["web","some"] (av (top 32)):=kR
theorem lI:FnScope ["web","one","other"] ["web"] (av (top 38)):=kR
theorem vK:FnScope ["_law_found","_law_due"] ["_law_found","_law_due"] (av (top 50)):=kR
theorem ET:FnScope ["web"] ["web"] (av (top 33)):=kR
theorem b7:FnScope ["_law_call","_law_error","e","_law_marks"] ["_law_call"] (av (top 52)):=kR
theorem kG:FnScope ["_law_script","_law_k","_law_state_here","_law_web_here","_law_due","_law_turn","_law_found","_law_bad","_law_calls"] ["_law_script"] (av (top 56)):=kR
section
variable {P:eb}{w:eK}{K:c_}{mg:Str->Option aC}{base:f'}
theorem xF{f:bc}{X:fg}(F:Fun K "is_whole" "is_whole" (top 17) f X)(Z:mg "is_whole"=ar (.ref f))(T:Txt K mg):DefX P w K mg base 1 "is_whole" ["thing"] c8:=
 br (m:=rS) F Z (F.binds λ_ _ _ _ _ _ us U=>match us,U with|[_],_=>rfl) xB rfl λY A outer s H E S=>
  aK (aX (kZ (jG (Ts:="int") T.b_isinstance T.b_int (ae 0)) (mR (yi (jG (Ts:="bool") T.b_isinstance T.b_bool (ae 0))))))
theorem zq{f:bc}{U:fg}(F:Fun K "is_pair" "is_pair" (top 18) f U)(Y:mg "is_pair"=ar (.ref f))(T:Txt K mg):DefX P w K mg base 1 "is_pair" ["thing"] dZ:=
 br (m:=t8) F Y (F.binds λ_ _ _ _ _ _ us S=>match us,S with|[_],_=>rfl) zl rfl λX A outer s H E Z=>
  aK (aX (kZ (jG (Ts:="tuple") T.b_isinstance T.b_tuple (ae 0)) (mR (zQ (gp Z) (fM T.b_len (ae 0)) ay))))
theorem vL{f:bc}{Y:fg}(F:Fun K "is_rising" "is_rising" (top 21) f Y)(U:mg "is_rising"=ar (.ref f))(T:Txt K mg):DefX P w K mg base 1 "is_rising" ["things"] hV:=
 br (m:=pI) F U (F.binds λ_ _ _ _ _ _ us S=>match us,S with|[_],_=>rfl) vH rfl λZ A outer s H E X=>
  aK (aX (uO rfl T.b_all (aH (eX (t:=jb) (m:=jc) (iu (Nc:=["ahead","behind"]) (js:=[none,none]) (av (top 21)) ["things"] (λ_=>rfl) rfl (by decide+kernel)) rfl (Ad T.b_zip (ae 0) (aH (nM (ae 0) (qg ay) qf))) (λC ex s2 R=>⟨k9 rfl (bQ (aN 0 (show(["ahead","behind"]:List Str).Nodup by decide+kernel)) (bQ (aN 1 (show(["ahead","behind"]:List Str).Nodup by decide+kernel)) gQ)),eW,G0 (FM X) (ae 0) (ae 1)⟩)))))
theorem xG{f:bc}{U:fg}(F:Fun K "are_tied" "are_tied" (top 26) f U)(Y:mg "are_tied"=ar (.ref f))(T:Txt K mg):DefX P w K mg base 1 "are_tied" ["web","one","other"] cJ:=
 br (m:=rT) F Y (F.binds λ_ _ _ _ _ _ us S=>match us,S with|[_,_,_],_=>rfl) xC rfl λX A outer s H E Z=>
  aK (aX (C3 (gp Z) (b8 (af (oG rfl T.b_min (af (ae 1) (af (ae 2) ak ag) ag)) (af (oF rfl T.b_max (af (ae 1) (af (ae 2) ak ag) ag)) ak aV) aV)) (aP (ae 0) ay)))
theorem vM{f:bc}{U:fg}(F:Fun K "_law_tied" "_law_tied" (top 40) f U)(Y:mg "_law_tied"=ar (.ref f))(T:Txt K mg):DefX P w K mg base 1 "_law_tied" ["_law_web_here","_law_one","_law_other"] ba:=
 br (m:=pJ) F Y (F.binds λ_ _ _ _ _ _ us S=>match us,S with|[_,_,_],_=>rfl) vI rfl λX A outer s H E Z=>
  aK (aX (C3 (gp Z) (b8 (af (oG rfl T.b_min (af (ae 1) (af (ae 2) ak ag) ag)) (af (oF rfl T.b_max (af (ae 1) (af (ae 2) ak ag) ag)) ak aV) aV)) (aP (ae 0) ay)))
theorem p7{f:bc}{U:fg}(F:Fun K "_law_cell_at" "_law_cell_at" (top 41) f U)(Y:mg "_law_cell_at"=ar (.ref f))(T:Txt K mg):DefX P w K mg base 1 "_law_cell_at" ["_law_script","_law_k"] eJ:=
 br (m:=lu) F Y (F.binds λ_ _ _ _ _ _ us S=>match us,S with|[_,_],_=>rfl) pZ rfl λX A outer s H E Z=>
  aB (du (tR (FM Z) (ae 1) (fM T.b_len (ae 0))) (aK (aX (aP (ae 0) (ae 1)))) b9) (aK (aX ay))
theorem vN{f:bc}{X:fg}(F:Fun K "_law_take" "_law_take" (top 43) f X)(Z:mg "_law_take"=ar (.ref f))(T:Txt K mg):DefX P w K mg base 1 "_law_take" ["_law_state_here","_law_many"] aD:=
 br (m:=pK) F Z (F.binds λ_ _ _ _ _ _ us U=>match us,U with|[_,_],_=>rfl) iW rfl λY A outer s H E S=>
  aB (du (cI (aP (ae 0) ay)) (aB (bH 2 iW.nd (oD (aP (ae 0) ay) (ae 1)) (hs:=dN)) (aB (oC (zO (aP (ae 0) ay) (ae 1)) (zT (ae 0) ay)) (aK (aX (ae 2))))) b9) (aB (oC (oD (cz (qX (aP (ae 0) ay) ay) ay) ay) (zT (ae 0) ay)) (aB (bH 3 iW.nd (oD (cz (cz (qX (aP (ae 0) ay) (aP (ae 0) ay)) (qX ay (aP (ae 0) ay))) ay) ay) (hs:=dN)) (aB (bH 3 iW.nd (oD (cz (qX (ae 3) (ae 3)) (qX ay (ae 3))) ay) (hs:=dN)) (aK (aX (oD (zO (ae 3) ay) (ae 1)))))))
theorem vO{f:bc}{U:fg}(F:Fun K "_law_made" "_law_made" (top 45) f U)(Y:mg "_law_made"=ar (.ref f))(T:Txt K mg):DefX P w K mg base 1 "_law_made" ["_law_web_here"] ia:=
 br (m:=jw) F Y (F.binds λ_ _ _ _ _ _ us S=>match us,S with|[_],_=>rfl) gk rfl λX A outer s H E Z=>
  aB (bH 1 gk.nd (aP (ae 0) ay) (hs:=vg)) (aB (bH 2 gk.nd (bM ak) (hs:=fX)) (aB (eF (b:=jd) Oa rfl (cG T.b_range (fM T.b_len (ae 1))) (aN 3 gk.nd) (aK (eF (b:=eL) Oa rfl (iZ T.b_range (cz (ae 3) ay) (fM T.b_len (ae 1))) (aN 4 gk.nd) (aK (du (sQ (tQ (wj (gp Z) (aP (aP (ae 1) (ae 3)) ay) (aP (ae 1) (ae 4))) (qW (wj (gp Z) (aP (aP (ae 1) (ae 3)) ay) (aP (ae 1) (ae 4)))))) (aK (d8 (fQ (ae 2) (b8 (af (ae 3) (af (ae 4) ak ag) ag))))) b9))))) (aK (aX (b8 (af (fM T.b_len (ae 1)) (af (jY T.b_tuple (ae 2)) ak aV) aV))))))
theorem td{f:bc}{X:fg}(F:Fun K "_law_named" "_law_named" (top 48) f X)(Z:mg "_law_named"=ar (.ref f))(T:Txt K mg):DefX P w K mg base 1 "_law_named" ["_law_web_here","_law_names"] fZ:=
 br (m:=iL) F Z (F.binds λ_ _ _ _ _ _ us U=>match us,U with|[_,_],_=>rfl) gZ rfl λY A outer s H E S=>
  aB (bH 2 gZ.nd (bM ak) (hs:=fX)) (aB (eF (b:=dO) Oa rfl (cZ (aP (ae 0) ay)) (k9 rfl (bQ (aN 3 gZ.nd) (bQ (aN 4 gZ.nd) gQ))) (aK (d8 (fQ (ae 2) (b8 (af (oG rfl T.b_min (af (aP (ae 1) (ae 3)) (af (aP (ae 1) (ae 4)) ak aY) aY)) (af (oF rfl T.b_max (af (aP (ae 1) (ae 3)) (af (aP (ae 1) (ae 4)) ak aY) aY)) ak aV) aV)))))) (aK (aX (b8 (af (aP (ae 0) ay) (af (jY T.b_tuple (aH (j3 T.b_sorted (ae 2)))) ak aV) aY)))))
theorem xH{f:bc}{S:fg}(F:Fun K "is_place" "is_place" (top 19) f S)(X:mg "is_place"=ar (.ref f))(T:Txt K mg)(Z:DefX P w K mg base 1 "is_whole" ["thing"] c8):DefX P w K mg base 2 "is_place" ["many","thing"] dG:=
 br (m:=rV) F X (F.binds λ_ _ _ _ _ _ us R=>match us,R with|[_,_],_=>rfl) xD rfl λU A outer s H E Y=>
  aK (aX (kZ (aE Z (Y.mono (by decide)) (af (ae 1) ak ag)) (mR (CV Cu (Ct.or (ya (FM Y))) (lQ λ_ _ _ _=>.bl _) ym ay (ae 1) (ae 0)))))
theorem EU{f:bc}{X:fg}(F:Fun K "joins" "joins" (top 29) f X)(S:mg "joins"=ar (.ref f))(T:Txt K mg)(Z:DefX P w K mg base 1 "are_tied" ["web","one","other"] cJ):DefX P w K mg base 2 "joins" ["web","some","place"] qp:=
 br (m:=Ak) F S (F.binds λ_ _ _ _ _ _ us R=>match us,R with|[_,_,_],_=>rfl) ES rfl λY A outer s H E U=>
  aK (aX (uO rfl T.b_all (aH (eX (t:=m5) (m:=m7) (iu (Nc:=["other","web","place"]) (js:=[none,ar 0,ar 2]) (av (top 29)) ["web","some","place"] (λ_=>rfl) rfl (by decide+kernel)) rfl (cZ (ae 1)) (λC ex s2 Q=>⟨aN 0 (show(["other","web","place"]:List Str).Nodup by decide+kernel),eW,aH (aE Z (U.mono (by decide)) (af (ae 1) (af (ae 0) (af (ae 2) ak ag) ag) ag))⟩)))))
theorem vP{f:bc}{U:fg}(F:Fun K "makes_odd" "makes_odd" (top 35) f U)(S:mg "makes_odd"=ar (.ref f))(T:Txt K mg)(Z:DefX P w K mg base 1 "are_tied" ["web","one","other"] cJ):DefX P w K mg base 2 "makes_odd" ["web","three","place"] jz:=
 br (m:=jx) F S (F.binds λ_ _ _ _ _ _ us R=>match us,R with|[_,_,_],_=>rfl) oj rfl λX A outer s H E Y=>
  aB (du (wj (gp Y) (ae 2) (ae 1)) (aK (aX i3)) b9) (aB (bH 3 oj.nd (fM T.b_len (aH (eX (t:=f7) (m:=f9) (iu (Nc:=["other","web","place"]) (js:=[none,ar 0,ar 2]) (av (top 35)) ["web","three","place","many"] (λ_=>rfl) rfl (by decide+kernel)) rfl (cZ (ae 1)) (λC ex s2 Q=>⟨aN 0 (show(["other","web","place"]:List Str).Nodup by decide+kernel),dD (cI (aH (aE Z (Y.mono (by decide)) (af (ae 1) (af (ae 0) (af (ae 2) ak ag) ag) ag)))),ae 0⟩)))) (hs:=gS)) (aK (aX (C3 (gp Y) (ae 3) (b8 (af ay (af (wD rfl T.g_PLACES_OF_A_THREE) ak ag) aG))))))
theorem sG{f:bc}{S:fg}(F:Fun K "is_odd_pair" "is_odd_pair" (top 37) f S)(R:mg "is_odd_pair"=ar (.ref f))(T:Txt K mg)(Z:DefX P w K mg base 1 "are_tied" ["web","one","other"] cJ):DefX P w K mg base 2 "is_odd_pair" ["web","one","other"] ft:=
 br (m:=gT) F R (F.binds λ_ _ _ _ _ _ us Q=>match us,Q with|[_,_,_],_=>rfl) jl rfl λX A outer s H E Y=>
  aB (i9 (eI 3 (t:=gD) (m:=gE) jl.nd (iu (Nc:=["place","other"]) (js:=[none,ar 2]) (av (top 37)) ["web","one","other","of_one","of_other"] (λ_=>rfl) rfl (by decide+kernel)) rfl (cZ (ae 1)) (λC ex s2 U=>⟨aN 0 (show(["place","other"]:List Str).Nodup by decide+kernel),dD (qY (gp Y) (ae 0) (ae 1)),ae 0⟩))) (aB (i9 (eI 4 (t:=gF) (m:=gG) jl.nd (iu (Nc:=["place","one"]) (js:=[none,ar 1]) (av (top 37)) ["web","one","other","of_one","of_other"] (λ_=>rfl) rfl (by decide+kernel)) rfl (cZ (ae 2)) (λC ex s2 U=>⟨aN 0 (show(["place","one"]:List Str).Nodup by decide+kernel),dD (qY (gp Y) (ae 0) (ae 1)),ae 0⟩))) (aK (aX (kZ (zQ (gp Y) (fM T.b_len (ae 3)) ay) (mR (yi (aH (aE Z (Y.mono (by decide)) (af (ae 0) (af (aP (ae 3) ay) (af (aP (ae 4) ay) ak aY) aY) ag)))))))))
theorem tj{f:bc}{S:fg}(F:Fun K "_law_state" "_law_state" (top 42) f S)(X:mg "_law_state"=ar (.ref f))(T:Txt K mg)(Z:DefX P w K mg base 1 "_law_cell_at" ["_law_script","_law_k"] eJ):DefX P w K mg base 2 "_law_state" ["_law_script","_law_k"] iM:=
 br (m:=nZ) F X (F.binds λ_ _ _ _ _ _ us R=>match us,R with|[_,_],_=>rfl) mJ rfl λU A outer s H E Y=>
  aB (bH 2 mJ.nd (aE Z (Y.mono (by decide)) (af (ae 0) (af (ae 1) ak ag) ag)) (hs:=gS)) (aB (du (KB (ae 2) (CS ay ay)) (aK (aX (bM (af (yk (ae 2) (CS ay ay)) (af i3 ak aG) lh)))) b9) (aK (aX (bM (af (oD (ae 2) ay) (af i3 ak aG) lh)))))
theorem tm{f:bc}{U:fg}(F:Fun K "_law_drawn" "_law_drawn" (top 44) f U)(S:mg "_law_drawn"=ar (.ref f))(T:Txt K mg)(Z:DefX P w K mg base 1 "_law_take" ["_law_state_here","_law_many"] aD):DefX P w K mg base 2 "_law_drawn" ["_law_state_here","_law_many","_law_often"] dH:=
 br (m:=iN) F S (F.binds λ_ _ _ _ _ _ us R=>match us,R with|[_,_,_],_=>rfl) jO rfl λX A outer s H E Y=>
  aB (bH 3 jO.nd (bM ak) (hs:=fX)) (aB (eF (b:=dP) Oa rfl (cG T.b_range (ae 1)) (aN 4 jO.nd) (aK (d8 (tS (ae 3) (aH (eX (t:=fC) (m:=fD) (iu (Nc:=["_law_b","_law_state_here","_law_often","_law_a"]) (js:=[none,ar 0,ar 2,ar 4]) (av (top 44)) ["_law_state_here","_law_many","_law_often","_law_ties","_law_a"] (λ_=>rfl) rfl (by decide+kernel)) rfl (iZ T.b_range (cz (ae 4) ay) (ae 1)) (λC ex s2 Q=>⟨aN 0 (show(["_law_b","_law_state_here","_law_often","_law_a"]:List Str).Nodup by decide+kernel),dD (tR (FM Y) (aH (aE Z (Y.mono (by decide)) (af (ae 1) (af ay ak aG) ag))) (ae 2)),b8 (af (ae 3) (af (ae 0) ak ag) ag)⟩))))))) (aK (aX (b8 (af (ae 1) (af (jY T.b_tuple (ae 3)) ak aV) ag)))))
theorem tq{f:bc}{S:fg}(F:Fun K "_law_mixed" "_law_mixed" (top 46) f S)(X:mg "_law_mixed"=ar (.ref f))(T:Txt K mg)(Z:DefX P w K mg base 1 "_law_take" ["_law_state_here","_law_many"] aD):DefX P w K mg base 2 "_law_mixed" ["_law_state_here","_law_many"] cq:=
 br (m:=iO) F X (F.binds λ_ _ _ _ _ _ us R=>match us,R with|[_,_],_=>rfl) jP rfl λU A outer s H E Y=>
  aB (bH 2 jP.nd (uQ rfl T.b_list T.b_range (ae 1)) (hs:=gS)) (aB (bH 3 jP.nd (bM ak) (hs:=fX)) (aB (CP (b:=dQ) 64 Oa (wg (gp Y) (ae 2) (aH (bM ak))) (aK (d8 (fQ (ae 3) (C9 (ae 2) (aH (aE Z (Y.mono (by decide)) (af (ae 0) (af (fM T.b_len (ae 2)) ak aV) ag)))))))) (aK (aX (jY T.b_tuple (ae 3))))))
theorem p8{f:bc}{S:fg}(F:Fun K "_law_bad_web" "_law_bad_web" (top 51) f S)(Q:mg "_law_bad_web"=ar (.ref f))(T:Txt K mg)(Z:DefX P w K mg base 1 "_law_take" ["_law_state_here","_law_many"] aD):DefX P w K mg base 2 "_law_bad_web" ["_law_state_here"] gh:=by
 refine br (m:=gf) F Q (F.binds λ_ _ _ _ _ _ us O=>match us,O with|[_],_=>rfl) kM rfl λY A outer s H E R=>?_;have key:∀e pos pos' U,SE (mP (om P w) P w K mg base ["_law_state_here","_law_some"] "_law_bad_web" (av (top 51)) f Y A outer s H E).nox bS e U->m_ e (ar (.Name "_law_some" pos')) pos.line (mP (om P w) P w K mg base ["_law_state_here","_law_some"] "_law_bad_web" (av (top 51)) f Y A outer s H E).nox.env=a_ dt->SS (mP (om P w) P w K mg base ["_law_state_here","_law_some"] "_law_bad_web" (av (top 51)) f Y A outer s H E).nox bS (.Assign [.Name "_law_some" pos'] e pos) (bC 1 U):=λe pos pos' U h hs=>bH 1 kM.nd h (hs:=hs);have X:∀pos,SE (mP (om P w) P w K mg base ["_law_state_here","_law_some"] "_law_bad_web" (av (top 51)) f Y A outer s H E).nox bS (.Name "_law_some" pos) (mV 1):=λpos=>ae 1;refine aB ?_ ?_
 ·with_reducible refine key _ _ _ _ ?_ fX
  with_reducible refine bM ?_
  with_reducible refine aZ mQ ?_ aG
  with_reducible refine aZ ay ?_ aG
  with_reducible refine aZ (d5 6 ?_) ?_ bI
  case refine_1=>rfl
  with_reducible refine aZ (d5 6 ?_) ?_ bI
  case refine_1=>rfl
  with_reducible refine aZ (d5 6 ?_) ?_ bI
  case refine_1=>rfl
  with_reducible refine aZ (d5 6 ?_) ?_ bI
  case refine_1=>rfl
  with_reducible refine aZ ?_ ?_ bI
  case refine_1=>exact(b8 (af ay (af (bM ak) ak qk) aG))
  with_reducible refine aZ ?_ ?_ qk
  case refine_1=>exact(bM (af ay (af (d5 6 rfl) ak bI) aG))
  with_reducible refine aZ (d5 6 ?_) ?_ bI
  case refine_1=>rfl
  with_reducible refine aZ (d5 6 ?_) ?_ bI
  case refine_1=>rfl
  exact ak
 refine aB ?_ ?_
 ·with_reducible refine key _ _ _ _ ?_ dN
  with_reducible refine cz (X _) ?_
  with_reducible refine bM ?_
  with_reducible refine aZ (d5 6 ?_) ?_ bI
  case refine_1=>rfl
  with_reducible refine aZ (d5 6 ?_) ?_ bI
  case refine_1=>rfl
  with_reducible refine aZ (d5 6 ?_) ?_ bI
  case refine_1=>rfl
  with_reducible refine aZ (d5 6 ?_) ?_ bI
  case refine_1=>rfl
  with_reducible refine aZ (d5 6 ?_) ?_ bI
  case refine_1=>rfl
  exact ak
 refine aB ?_ ?_
 ·with_reducible refine key _ _ _ _ ?_ dN
  with_reducible refine cz (X _) ?_
  exact bM (af (d5 6 rfl) (af qU (af Ii ak FL) aG) bI)
 refine aB ?_ ?_
 ·with_reducible refine key _ _ _ _ ?_ dN
  with_reducible refine cz (X _) ?_
  with_reducible refine bM ?_
  with_reducible refine aZ ?_ ?_ bI
  case refine_1=>exact(b8 (af ay (af (b8 (af (bM (af ay (af ay ak aG) aG)) ak qk)) ak bI) aG))
  with_reducible refine aZ (d5 6 ?_) ?_ bI
  case refine_1=>rfl
  with_reducible refine aZ (d5 6 ?_) ?_ bI
  case refine_1=>rfl
  with_reducible refine aZ (d5 6 ?_) ?_ bI
  case refine_1=>rfl
  exact ak
 exact(aK (aX (aP (ae 1) (aE Z (R.mono (by decide)) (af (ae 0) (af ay ak aG) ag)))))
theorem tu{f:bc}{S:fg}(F:Fun K "_law_claws" "_law_claws" (top 53) f S)(R:mg "_law_claws"=ar (.ref f))(T:Txt K mg)(Z:DefX P w K mg base 1 "_law_tied" ["_law_web_here","_law_one","_law_other"] ba):DefX P w K mg base 2 "_law_claws" ["_law_web_here"] dI:=
 br (m:=iP) F R (F.binds λ_ _ _ _ _ _ us Q=>match us,Q with|[_],_=>rfl) c9 rfl λU A outer s H E Y=>
  aB (bH 1 c9.nd (bM ak) (hs:=fX)) (aB (eF (b:=dU) Oa rfl (cG T.b_range (aP (ae 0) ay)) (aN 2 c9.nd) (aB (i9 (eI 3 (t:=fE) (m:=fF) c9.nd (iu (Nc:=["_law_b","_law_web_here","_law_a"]) (js:=[none,ar 0,ar 2]) (av (top 53)) ["_law_web_here","_law_found","_law_a","_law_some","_law_b","_law_later","_law_c"] (λ_=>rfl) rfl (by decide+kernel)) rfl (cG T.b_range (aP (ae 0) ay)) (λC ex s2 X=>⟨aN 0 (show(["_law_b","_law_web_here","_law_a"]:List Str).Nodup by decide+kernel),dD (cI (aH (aE Z (Y.mono (by decide)) (af (ae 1) (af (ae 2) (af (ae 0) ak ag) ag) ag)))),ae 0⟩))) (aK (eF (b:=dR) Oa rfl (cZ (ae 3)) (aN 4 c9.nd) (aB (i9 (eI 5 (t:=fG) (m:=fH) c9.nd (iu (Nc:=["_law_c","_law_b","_law_web_here"]) (js:=[none,ar 4,ar 0]) (av (top 53)) ["_law_web_here","_law_found","_law_a","_law_some","_law_b","_law_later","_law_c"] (λ_=>rfl) rfl (by decide+kernel)) rfl (cZ (ae 3)) (λC ex s2 X=>⟨aN 0 (show(["_law_c","_law_b","_law_web_here"]:List Str).Nodup by decide+kernel),dD (sQ (oB (CU (ae 0) (ae 1)) (nH (gr (cI (aH (aE Z (Y.mono (by decide)) (af (ae 2) (af (ae 1) (af (ae 0) ak ag) ag) ag)))))))),ae 0⟩))) (aK (eF (b:=fI) Oa rfl (cZ (ae 5)) (aN 6 c9.nd) (aK (d8 (tS (ae 1) (aH (eX (t:=iw) (m:=iy) (iu (Nc:=["_law_d","_law_c","_law_web_here","_law_a","_law_b"]) (js:=[none,ar 6,ar 0,ar 2,ar 4]) (av (top 53)) ["_law_web_here","_law_found","_law_a","_law_some","_law_b","_law_later","_law_c"] (λ_=>rfl) rfl (by decide+kernel)) rfl (cZ (ae 5)) (λC ex s2 X=>⟨aN 0 (show(["_law_d","_law_c","_law_web_here","_law_a","_law_b"]:List Str).Nodup by decide+kernel),dD (sQ (oB (CU (ae 0) (ae 1)) (nH (gr (cI (aH (aE Z (Y.mono (by decide)) (af (ae 2) (af (ae 1) (af (ae 0) ak ag) ag) ag)))))))),b8 (by (refine aZ (ae 3) ?_ ag;refine aZ (ae 4) ?_ ag;refine aZ (ae 1) ?_ ag;refine aZ (ae 0) ?_ ag;exact ak))⟩))))))))))))) (aK (aX (ae 1))))
theorem xI{f:bc}{S:fg}(F:Fun K "_law_odd" "_law_odd" (top 54) f S)(R:mg "_law_odd"=ar (.ref f))(T:Txt K mg)(Z:DefX P w K mg base 1 "_law_tied" ["_law_web_here","_law_one","_law_other"] ba):DefX P w K mg base 2 "_law_odd" ["_law_web_here"] fO:=
 br (m:=kl) F R (F.binds λ_ _ _ _ _ _ us Q=>match us,Q with|[_],_=>rfl) eR rfl λU A outer s H E Y=>
  aB (bH 1 eR.nd (bM ak) (hs:=fX)) (aB (eF (b:=fx) Oa rfl (cG T.b_range (aP (ae 0) ay)) (aN 2 eR.nd) (aK (eF (b:=fw) Oa rfl (iZ T.b_range (cz (ae 2) ay) (aP (ae 0) ay)) (aN 3 eR.nd) (aK (eF (b:=fu) Oa rfl (iZ T.b_range (cz (ae 3) ay) (aP (ae 0) ay)) (aN 4 eR.nd) (aK (du (sQ (oB (cI (aH (aE Z (Y.mono (by decide)) (af (ae 0) (af (ae 2) (af (ae 3) ak ag) ag) ag)))) (oB (cI (aH (aE Z (Y.mono (by decide)) (af (ae 0) (af (ae 2) (af (ae 4) ak ag) ag) ag)))) (nH (cI (aH (aE Z (Y.mono (by decide)) (af (ae 0) (af (ae 3) (af (ae 4) ak ag) ag) ag)))))))) (aB (i9 (eI 5 (t:=gU) (m:=gW) eR.nd (iu (Nc:=["_law_place","_law_a","_law_b","_law_c"]) (js:=[none,ar 2,ar 3,ar 4]) (av (top 54)) ["_law_web_here","_law_found","_law_a","_law_b","_law_c","_law_others","_law_marks"] (λ_=>rfl) rfl (by decide+kernel)) rfl (cG T.b_range (aP (ae 0) ay)) (λC ex s2 X=>⟨aN 0 (show(["_law_place","_law_a","_law_b","_law_c"]:List Str).Nodup by decide+kernel),dD (qY (gp Y) (ae 0) (b8 (af (ae 1) (af (ae 2) (af (ae 3) ak ag) ag) ag))),ae 0⟩))) (aB (i9 (eI 6 (t:=gX) (m:=gY) eR.nd (iu (Nc:=["_law_place","_law_a","_law_b","_law_c","_law_web_here"]) (js:=[none,ar 2,ar 3,ar 4,ar 0]) (av (top 54)) ["_law_web_here","_law_found","_law_a","_law_b","_law_c","_law_others","_law_marks"] (λ_=>rfl) rfl (by decide+kernel)) rfl (cZ (ae 5)) (λC ex s2 X=>⟨aN 0 (show(["_law_place","_law_a","_law_b","_law_c","_law_web_here"]:List Str).Nodup by decide+kernel),eW,BO (gp Y) (aH (eX (t:=jJ) (m:=jK) (iu (Nc:=["_law_one","_law_web_here","_law_place"]) (js:=[none,ar 4,ar 0]) _ ["_law_place","_law_a","_law_b","_law_c","_law_web_here"] (λ_=>rfl) rfl rfl) rfl (cZ (b8 (af (ae 1) (af (ae 2) (af (ae 3) ak ag) ag) ag))) (λC ex s2 X=>⟨aN 0 (show(["_law_one","_law_web_here","_law_place"]:List Str).Nodup by decide+kernel),eW,aH (aE Z (Y.mono (by decide)) (af (ae 1) (af (ae 0) (af (ae 2) ak ag) ag) ag))⟩))) i3⟩))) (aK (du (sQ (tQ (wj (gp Y) ay (ae 6)) (qW (wj (gp Y) ay (ae 6))))) (aK (d8 (fQ (ae 1) (b8 (af (ae 2) (af (ae 3) (af (ae 4) ak ag) ag) ag))))) b9)))) b9))))))) (aK (aX (ae 1))))
theorem vQ{f:bc}{U:fg}(F:Fun K "_law_pair" "_law_pair" (top 55) f U)(S:mg "_law_pair"=ar (.ref f))(T:Txt K mg)(Z:DefX P w K mg base 1 "_law_tied" ["_law_web_here","_law_one","_law_other"] ba):DefX P w K mg base 2 "_law_pair" ["_law_web_here","_law_some"] fR:=
 br (m:=jA) F S (F.binds λ_ _ _ _ _ _ us R=>match us,R with|[_,_],_=>rfl) iX rfl λX A outer s H E Y=>
  aB (eF (b:=dg) Oa rfl (cG T.b_range (fM T.b_len (ae 1))) (aN 2 iX.nd) (aK (eF (b:=cR) Oa rfl (cZ (aH (nM (ae 1) (qg (cz (ae 2) ay)) qf))) (aN 3 iX.nd) (aB (i9 (eI 4 (t:=je) (m:=jf) iX.nd (iu (Nc:=["_law_place","_law_some","_law_at","_law_other"]) (js:=[none,ar 1,ar 2,ar 3]) (av (top 55)) ["_law_web_here","_law_some","_law_at","_law_other","_law_alone"] (λ_=>rfl) rfl (by decide+kernel)) rfl (cZ (aH (cz (aP (ae 1) (ae 2)) (ae 3)))) (λC ex s2 Q=>⟨aN 0 (show(["_law_place","_law_some","_law_at","_law_other"]:List Str).Nodup by decide+kernel),dD (we (gp Y) (DZ (gp Y) (aH (cz (aP (ae 1) (ae 2)) (ae 3))) (ae 0)) ay),ae 0⟩))) (aK (du (sQ (oB (we (gp Y) (fM T.b_len (ae 4)) ay) (nH (gr (cI (aH (aE Z (Y.mono (by decide)) (af (ae 0) (af (aP (ae 4) ay) (af (aP (ae 4) ay) ak aY) aY) ag)))))))) (aK (aX (b8 (af (aP (ae 1) (ae 2)) (af (ae 3) ak ag) aY)))) b9)))))) (aK (aX mQ))
theorem B9{f:bc}{R:fg}(F:Fun K "is_tie" "is_tie" (top 20) f R)(U:mg "is_tie"=ar (.ref f))(T:Txt K mg)(Y:DefX P w K mg base 1 "is_pair" ["thing"] dZ)(Z:DefX P w K mg base 2 "is_place" ["many","thing"] dG):DefX P w K mg base 3 "is_tie" ["many","thing"] n4:=
 br (m:=rW) F U (F.binds λ_ _ _ _ _ _ us Q=>match us,Q with|[_,_],_=>rfl) pv rfl λS A outer s H E X=>
  aB (du (gr (cI (aE Y (X.mono (by decide)) (af (ae 1) ak ag)))) (aK (aX i3)) b9) (aB (oC (ae 1) (k9 rfl (bQ (aN 2 pv.nd) (bQ (aN 3 pv.nd) gQ)))) (aK (aX (kZ (aE Z (X.mono (by decide)) (af (ae 0) (af (ae 2) ak ag) ag)) (kZ (aE Z (X.mono (by decide)) (af (ae 0) (af (ae 3) ak ag) ag)) (mR (G0 (FM X) (ae 2) (ae 3))))))))
theorem Ca{f:bc}{X:fg}(F:Fun K "threes" "threes" (top 34) f X)(S:mg "threes"=ar (.ref f))(T:Txt K mg)(Z:DefX P w K mg base 2 "joins" ["web","some","place"] qp):DefX P w K mg base 3 "threes" ["web"] jg:=
 br (m:=xb) F S (F.binds λ_ _ _ _ _ _ us R=>match us,R with|[_],_=>rfl) B8 rfl λY A outer s H E U=>
  aK (aX (aH (rP (t:=lA) (t2:=lB) (m:=lC) (iu (Nc:=["tie","place","web"]) (js:=[none,none,ar 0]) (av (top 34)) ["web"] (λ_=>rfl) rfl (by decide+kernel)) rfl (cZ (aP (ae 0) ay)) (λC ex s2 Q=>⟨aN 0 (show(["tie","place","web"]:List Str).Nodup by decide+kernel),eW,iZ T.b_range (cz (aP (ae 0) ay) ay) (aP (ae 2) ay),aN 1 (show(["tie","place","web"]:List Str).Nodup by decide+kernel),dD (cI (aH (aE Z (U.mono (by decide)) (af (ae 2) (af (ae 0) (af (ae 1) ak ag) ag) ag)))),aH (cz (ae 0) (b8 (af (ae 1) ak ag)))⟩))))
theorem pB{f:bc}{R:fg}(F:Fun K "_law_few_ties" "_law_few_ties" (top 47) f R)(U:mg "_law_few_ties"=ar (.ref f))(T:Txt K mg)(Z:DefX P w K mg base 1 "_law_take" ["_law_state_here","_law_many"] aD)(Y:DefX P w K mg base 2 "_law_mixed" ["_law_state_here","_law_many"] cq):DefX P w K mg base 3 "_law_few_ties" ["_law_state_here","_law_most"] cK:=
 br (m:=fJ) F U (F.binds λ_ _ _ _ _ _ us Q=>match us,Q with|[_,_],_=>rfl) bA rfl λS A outer s H E X=>
  aB (bH 2 bA.nd (cz ay (aH (aE Z (X.mono (by decide)) (af (ae 0) (af (oG rfl T.b_min (af ay (af (cz (ae 1) ay) ak lh) aG)) ak aV) ag)))) (hs:=dN)) (aB (bH 3 bA.nd (aH (aE Y (X.mono (by decide)) (af (ae 0) (af (ae 2) ak ag) ag))) (hs:=gS)) (aB (bH 4 bA.nd (bM ak) (hs:=fX)) (aB (eF (b:=bN) Oa rfl (iZ T.b_range ay (ae 2)) (aN 5 bA.nd) (aK (du (CU (aH (aE Z (X.mono (by decide)) (af (ae 0) (af ay ak aG) ag))) ay) (aB (HX 6 7 rfl bA.nd (af (aP (ae 3) (ae 5)) (af (aP (ae 3) (aH (aE Z (X.mono (by decide)) (af (ae 0) (af (ae 5) ak ag) ag)))) ak aY) aY)) (aK (d8 (fQ (ae 4) (b8 (af (oG rfl T.b_min (af (ae 6) (af (ae 7) ak ag) ag)) (af (oF rfl T.b_max (af (ae 6) (af (ae 7) ak ag) ag)) ak aV) aV)))))) b9))) (aB (eF (b:=bO) Oa rfl (cG T.b_range (aH (aE Z (X.mono (by decide)) (af (ae 0) (af ay ak aG) ag)))) (aN 8 bA.nd) (aB (oC (aH (j3 T.b_sorted (aH (bM (af (aH (aE Z (X.mono (by decide)) (af (ae 0) (af (ae 2) ak ag) ag))) (af (aH (aE Z (X.mono (by decide)) (af (ae 0) (af (ae 2) ak ag) ag))) ak aV) aV))))) (DT rfl (bQ (aN 9 bA.nd) (bQ (aN 10 bA.nd) gQ)))) (aK (du (tR (FM X) (ae 9) (ae 10)) (aK (d8 (fQ (ae 4) (b8 (af (ae 9) (af (ae 10) ak ag) ag))))) b9)))) (aK (aX (b8 (af (ae 2) (af (jY T.b_tuple (aH (j3 T.b_sorted (aH (nM (aH (uZ rfl (Nb X) T.b_sorted T.b_set (ae 4))) qf (qg (ae 1))))))) ak aV) ag))))))))
theorem Cb{f:bc}{Q:fg}(F:Fun K "is_web" "is_web" (top 22) f Q)(O:mg "is_web"=ar (.ref f))(T:Txt K mg)(Y:DefX P w K mg base 1 "is_whole" ["thing"] c8)(X:DefX P w K mg base 1 "is_pair" ["thing"] dZ)(U:DefX P w K mg base 3 "is_tie" ["many","thing"] n4)(Z:DefX P w K mg base 1 "is_rising" ["things"] hV):DefX P w K mg base 4 "is_web" ["thing"] lD:=
 br (m:=rX) F O (F.binds λ_ _ _ _ _ _ us N=>match us,N with|[_],_=>rfl) pA rfl λR A outer s H E S=>
  aB (du (gr (cI (aH (aE X (S.mono (by decide)) (af (ae 0) ak ag))))) (aK (aX i3)) b9) (aB (oC (ae 0) (k9 rfl (bQ (aN 1 pA.nd) (bQ (aN 2 pA.nd) gQ)))) (aB (du (sQ (tQ (gr (cI (aH (aE Y (S.mono (by decide)) (af (ae 1) ak ag))))) (tQ (gr (CY Cu Cu (lQ λ_ _ _ _=>.bl _) (lQ λ_ _ _ _=>.bl _) ay (ae 1) (wD rfl T.g_MOST_PLACES))) (qW (gr (cI (jG (Ts:="tuple") T.b_isinstance T.b_tuple (ae 2)))))))) (aK (aX i3)) b9) (aK (aX (kZ (uO rfl T.b_all (aH (eX (t:=jB) (m:=jC) (iu (Nc:=["tie","many"]) (js:=[none,ar 1]) (av (top 22)) ["thing","many","ties"] (λ_=>rfl) rfl (by decide+kernel)) rfl (cZ (ae 2)) (λC ex s2 L=>⟨aN 0 (show(["tie","many"]:List Str).Nodup by decide+kernel),eW,aH (aE U (S.mono (by decide)) (af (ae 1) (af (ae 0) ak ag) ag))⟩)))) (mR (aH (aE Z (S.mono (by decide)) (af (ae 2) ak ag)))))))))
theorem xJ{f:bc}{N:fg}(F:Fun K "_law_web" "_law_web" (top 49) f N)(L:mg "_law_web"=ar (.ref f))(T:Txt K mg)(Z:DefX P w K mg base 1 "_law_take" ["_law_state_here","_law_many"] aD)(X:DefX P w K mg base 2 "_law_drawn" ["_law_state_here","_law_many","_law_often"] dH)(R:DefX P w K mg base 1 "_law_made" ["_law_web_here"] ia)(U:DefX P w K mg base 2 "_law_mixed" ["_law_state_here","_law_many"] cq)(Y:DefX P w K mg base 3 "_law_few_ties" ["_law_state_here","_law_most"] cK)(S:DefX P w K mg base 1 "_law_named" ["_law_web_here","_law_names"] fZ):DefX P w K mg base 4 "_law_web" ["_law_state_here","_law_most"] fP:=
 br (m:=km) F L (F.binds λ_ _ _ _ _ _ us J=>match us,J with|[_,_],_=>rfl) dy rfl λO A outer s H E Q=>
  aB (bH 2 dy.nd (aH (aE Z (Q.mono (by decide)) (af (ae 0) (af ay ak aG) ag))) (hs:=gS)) (aB (du (tR (FM Q) (ae 2) ay) (aB (bH 3 dy.nd (yk (ae 1) (aP (aH (bM (by (refine aZ ay ?_ aG;refine aZ ay ?_ aG;refine aZ ay ?_ aG;refine aZ ay ?_ aG;refine aZ ay ?_ aG;refine aZ (ae 1) ?_ ag;exact ak)))) (aH (aE Z (Q.mono (by decide)) (af (ae 0) (af ay ak aG) ag))))) (hs:=dN)) (aK (aX (aH (aE X (Q.mono (by decide)) (af (ae 0) (af (oF rfl T.b_max (af ay (af (ae 3) ak ag) aG)) (af (cz (ae 2) ay) ak lh) aV) ag)))))) b9) (aB (bH 4 dy.nd (aH (aE R (Q.mono (by decide)) (af (aH (aE Y (Q.mono (by decide)) (af (ae 0) (af (ae 1) ak ag) ag))) ak aV))) (hs:=gS)) (aB (bH 4 dy.nd (aH (aE S (Q.mono (by decide)) (af (ae 4) (af (aH (aE U (Q.mono (by decide)) (af (ae 0) (af (aP (ae 4) ay) ak aY) ag))) ak aV) ag))) (hs:=gS)) (aB (du (sQ (tQ (we (gp Q) (ae 2) ay) (qW (tR (FM Q) (aP (ae 4) ay) ay)))) (aK (aX (ae 4))) b9) (aB (oC (aH (j3 T.b_sorted (aH (bM (af (aH (aE Z (Q.mono (by decide)) (af (ae 0) (af (aP (ae 4) ay) ak aY) ag))) (af (aH (aE Z (Q.mono (by decide)) (af (ae 0) (af (aP (ae 4) ay) ak aY) ag))) ak aV) aV))))) (DT rfl (bQ (aN 5 dy.nd) (bQ (aN 6 dy.nd) gQ)))) (aB (eI 7 (t:=fy) (m:=fA) dy.nd (iu (Nc:=["_law_tie","_law_a","_law_b"]) (js:=[none,ar 5,ar 6]) (av (top 49)) ["_law_state_here","_law_most","_law_way","_law_many","_law_web_here","_law_a","_law_b","_law_ties"] (λ_=>rfl) rfl (by decide+kernel)) rfl (cZ (aP (ae 4) ay)) (λC ex s2 I=>⟨aN 0 (show(["_law_tie","_law_a","_law_b"]:List Str).Nodup by decide+kernel),dD (wg (gp Q) (ae 0) (b8 (af (ae 1) (af (ae 2) ak ag) ag))),ae 0⟩)) (aB (du (sQ (oB (tR (FM Q) (ae 5) (ae 6)) (nH (we (gp Q) (fM T.b_len (ae 7)) (fM T.b_len (aP (ae 4) ay)))))) (aK (d8 (fQ (ae 7) (b8 (af (ae 5) (af (ae 6) ak ag) ag))))) b9) (aK (aX (b8 (af (aP (ae 4) ay) (af (jY T.b_tuple (aH (j3 T.b_sorted (ae 7)))) ak aV) aY)))))))))))
theorem xK{f:bc}{S:fg}(F:Fun K "need_web" "need_web" (top 23) f S)(X:mg "need_web"=ar (.ref f))(T:Txt K mg)(Z:DefX P w K mg base 4 "is_web" ["thing"] lD):DefX P w K mg base 5 "need_web" ["thing"] cS:=
 lZ (m:=rY) F X (F.binds λ_ _ _ _ _ _ us R=>match us,R with|[_],_=>rfl) xE rfl λU A outer s H E Y=>
  aK (du (gr (cI (aH (dM Z (Y.mono (by decide)) bZ.pass (af (ae 0) ak ag))))) (aK (wJ bZ rfl T.err (by decide) (by decide) (af qU ak aG))) b9)
theorem tw{f:bc}{R:fg}(F:Fun K "need_place" "need_place" (top 24) f R)(U:mg "need_place"=ar (.ref f))(T:Txt K mg)(Z:DefX P w K mg base 2 "is_place" ["many","thing"] dG)(Y:DefX P w K mg base 5 "need_web" ["thing"] cS):DefX P w K mg base 6 "need_place" ["web","place"] iQ:=
 lZ (m:=n5) F U (F.binds λ_ _ _ _ _ _ us Q=>match us,Q with|[_,_],_=>rfl) sY rfl λS A outer s H E X=>
  aB (d8 (aH (dM Y (X.mono (by decide)) bZ.pass (af (ae 0) ak ag)))) (aK (du (gr (cI (aH (dM Z (X.mono (by decide)) bZ.pass (af (aP (ae 0) ay) (af (ae 1) ak ag) aY))))) (aK (wJ bZ rfl T.err (by decide) (by decide) (af qU ak aG))) b9))
theorem xM{j:Nat}{Y:List D->M D}{f:bc}{S:fg}(F:Fun K "choices" "choices" (top 25) f S)(R:mg "choices"=ar (.ref f))(T:Txt K mg)(Z:DefX P w K mg base (1+j) "choices" ["things","size"] Y):DefX P w K mg base (1+j+1) "choices" ["things","size"] (kN 2 2 (gH Y)):=
 br (m:=gH Y) F R (F.binds λ_ _ _ _ _ _ us Q=>match us,Q with|[_,_],_=>rfl) zm rfl λU A outer s H E X=>
  aB (du (we (gp X) (ae 1) ay) (aK (aX (aH (bM (af (d5 6 rfl) ak bI))))) b9) (aK (aX (aH (rP (t:=ko Y) (t2:=kq Y) (m:=ku Y) (iu (Nc:=["at","thing","rest","things","size"]) (js:=[none,none,none,ar 0,ar 1]) (av (top 25)) ["things","size"] (λ_=>rfl) rfl (by decide+kernel)) rfl (F5 T.b_enumerate (ae 0)) (λC ex s2 O=>⟨k9 rfl (bQ (aN 0 (show(["at","thing","rest","things","size"]:List Str).Nodup by decide+kernel)) (bQ (aN 1 (show(["at","thing","rest","things","size"]:List Str).Nodup by decide+kernel)) gQ)),eW,cZ (aH (aE Z (X.mono (Nq _)) (af (aH (nM (ae 3) (qg (cz (ae 0) ay)) qf)) (af (yk (ae 4) ay) ak lh) aY))),aN 2 (show(["at","thing","rest","things","size"]:List Str).Nodup by decide+kernel),eW,aH (cz (b8 (af (ae 1) ak ag)) (ae 2))⟩)))))
theorem pP{f:bc}{Y:fg}(F:Fun K "choices" "choices" (top 25) f Y)(Z:mg "choices"=ar (.ref f))(T:Txt K mg):∀n,DefX P w K mg base (1+n) "choices" ["things","size"] (eM n)
 |0=>DefX.none F Z (F.binds λ_ _ _ _ _ _ us X=>match us,X with|[_,_],_=>rfl)
 |n+1=>xM F Z T (pP F Z T n)
theorem zv{f:bc}{Z:fg}(F:Fun K "choices" "choices" (top 25) f Z)(Y:mg "choices"=ar (.ref f))(T:Txt K mg):DefX P w K mg base 6 "choices" ["things","size"] bG:=pP F Y T 5
theorem tx{f:bc}{Q:fg}(F:Fun K "odd_threes" "odd_threes" (top 36) f Q)(O:mg "odd_threes"=ar (.ref f))(T:Txt K mg)(Y:DefX P w K mg base 5 "need_web" ["thing"] cS)(X:DefX P w K mg base 3 "threes" ["web"] jg)(Z:DefX P w K mg base 2 "makes_odd" ["web","three","place"] jz):DefX P w K mg base 6 "odd_threes" ["web"] bf:=
 lZ (m:=iR) F O (F.binds λ_ _ _ _ _ _ us N=>match us,N with|[_],_=>rfl) sZ rfl λS A outer s H E U=>
  aB (d8 (aH (dM Y (U.mono (by decide)) bZ.pass (af (ae 0) ak ag)))) (aK (aX (vd (eX (t:=fK) (m:=fL) (iu (Nc:=["three","web"]) (js:=[none,ar 0]) (av (top 36)) ["web"] (λ_=>rfl) rfl (by decide+kernel)) rfl (cZ (aH (aE X (U.mono (by decide)) (af (ae 0) ak ag)))) (λC ex s2 R=>⟨aN 0 (show(["three","web"]:List Str).Nodup by decide+kernel),dD (cI (DM rfl T.b_any (aH (eX (t:=iz) (m:=iA) (iu (Nc:=["place","web","three"]) (js:=[none,ar 1,ar 0]) _ ["three","web"] (λ_=>rfl) rfl rfl) rfl (cG T.b_range (aP (ae 1) ay)) (λC ex s2 R=>⟨aN 0 (show(["place","web","three"]:List Str).Nodup by decide+kernel),eW,aH (aE Z (U.mono (by decide)) (af (ae 1) (af (ae 2) (af (ae 0) ak ag) ag) ag))⟩))))),ae 0⟩)))))
theorem GQ{f:bc}{S:fg}(F:Fun K "near" "near" (top 27) f S)(R:mg "near"=ar (.ref f))(T:Txt K mg)(Z:DefX P w K mg base 6 "need_place" ["web","place"] iQ)(Y:DefX P w K mg base 1 "are_tied" ["web","one","other"] cJ):DefX P w K mg base 7 "near" ["web","place"] oW:=
 lZ (m:=vh) F R (F.binds λ_ _ _ _ _ _ us Q=>match us,Q with|[_,_],_=>rfl) GP rfl λU A outer s H E X=>
  aB (d8 (aH (dM Z (X.mono (by decide)) bZ.pass (af (ae 0) (af (ae 1) ak ag) ag)))) (aK (aX (aH (vd (eX (t:=oU) (m:=oV) (iu (Nc:=["other","web","place"]) (js:=[none,ar 0,ar 1]) (av (top 27)) ["web","place"] (λ_=>rfl) rfl (by decide+kernel)) rfl (cG T.b_range (aP (ae 0) ay)) (λC ex s2 O=>⟨aN 0 (show(["other","web","place"]:List Str).Nodup by decide+kernel),dD (cI (aH (aE Y (X.mono (by decide)) (af (ae 1) (af (ae 2) (af (ae 0) ak ag) ag) ag)))),ae 0⟩))))))
theorem vR{f:bc}{S:fg}(F:Fun K "are_loose" "are_loose" (top 32) f S)(R:mg "are_loose"=ar (.ref f))(T:Txt K mg)(Y:DefX P w K mg base 6 "choices" ["things","size"] bG)(Z:DefX P w K mg base 1 "are_tied" ["web","one","other"] cJ):DefX P w K mg base 7 "are_loose" ["web","some"] jD:=
 br (m:=pL) F R (F.binds λ_ _ _ _ _ _ us Q=>match us,Q with|[_,_],_=>rfl) vJ rfl λU A outer s H E X=>
  aK (aX (yi (DM rfl T.b_any (aH (eX (t:=jh) (m:=ji) (iu (Nc:=["low","high","web"]) (js:=[none,none,ar 0]) (av (top 32)) ["web","some"] (λ_=>rfl) rfl (by decide+kernel)) rfl (cZ (aH (aE Y (X.mono (by decide)) (af (ae 1) (af ay ak aG) ag)))) (λC ex s2 O=>⟨k9 rfl (bQ (aN 0 (show(["low","high","web"]:List Str).Nodup by decide+kernel)) (bQ (aN 1 (show(["low","high","web"]:List Str).Nodup by decide+kernel)) gQ)),eW,aH (aE Z (X.mono (by decide)) (af (ae 2) (af (ae 0) (af (ae 1) ak ag) ag) ag))⟩))))))
theorem xN{f:bc}{Q:fg}(F:Fun K "odd_pair" "odd_pair" (top 38) f Q)(S:mg "odd_pair"=ar (.ref f))(T:Txt K mg)(X:DefX P w K mg base 6 "choices" ["things","size"] bG)(Y:DefX P w K mg base 6 "odd_threes" ["web"] bf)(Z:DefX P w K mg base 2 "is_odd_pair" ["web","one","other"] ft):DefX P w K mg base 7 "odd_pair" ["web"] eN:=
 lZ (m:=ky) F S (F.binds λ_ _ _ _ _ _ us O=>match us,O with|[_],_=>rfl) lI rfl λR A outer s H E U=>
  aB (eF (b:=jL) bZ.ow rfl (cZ (aH (dM X (U.mono (by decide)) bZ.pass (af (aH (dM Y (U.mono (by decide)) bZ.pass (af (ae 0) ak ag))) (af ay ak aG) aV)))) (k9 rfl (bQ (aN 1 lI.nd) (bQ (aN 2 lI.nd) gQ))) (aK (du (cI (aH (dM Z (U.mono (by decide)) bZ.pass (af (ae 0) (af (ae 1) (af (ae 2) ak ag) ag) ag)))) (aK (aX (b8 (af (ae 1) (af (ae 2) ak ag) ag)))) b9))) (aK (aX mQ))
theorem tD{j:Nat}{X:List D->M D}{f:bc}{S:fg}(F:Fun K "_law_same" "_law_same" (top 50) f S)(R:mg "_law_same"=ar (.ref f))(T:Txt K mg)(Z:DefX P w K mg base (1+j) "_law_same" ["_law_found","_law_due"] X):DefX P w K mg base (1+j+1) "_law_same" ["_law_found","_law_due"] (kN 2 2 (cC X)):=
 br (m:=cC X) F R (F.binds λ_ _ _ _ _ _ us Q=>match us,Q with|[_,_],_=>rfl) vK rfl λU A outer s H E Y=>
  aB (du (cI (FB (Ts:="tuple") (Us:="list") T.b_isinstance T.b_tuple T.b_list (ae 1))) (aB (du (sQ (tQ (wg (gp Y) (jG (Ts:="tuple") T.b_isinstance T.b_tuple (ae 0)) (jG (Ts:="tuple") T.b_isinstance T.b_tuple (ae 1))) (qW (wg (gp Y) (jG (Ts:="list") T.b_isinstance T.b_list (ae 0)) (jG (Ts:="list") T.b_isinstance T.b_list (ae 1)))))) (aK (aX i3)) b9) (aB (du (wg (gp Y) (fM T.b_len (ae 0)) (fM T.b_len (ae 1))) (aK (aX i3)) b9) (aK (aX (uO rfl T.b_all (aH (eX (t:=dh X) (m:=di X) (iu (Nc:=["_law_one","_law_other"]) (js:=[none,none]) (av (top 50)) ["_law_found","_law_due"] (λ_=>rfl) rfl (by decide+kernel)) rfl (Ad T.b_zip (ae 0) (ae 1)) (λC ex s2 O=>⟨k9 rfl (bQ (aN 0 (show(["_law_one","_law_other"]:List Str).Nodup by decide+kernel)) (bQ (aN 1 (show(["_law_one","_law_other"]:List Str).Nodup by decide+kernel)) gQ)),eW,aH (aE Z (Y.mono (Nq _)) (af (ae 0) (af (ae 1) ak ag) ag))⟩)))))))) b9) (aK (aX (kZ (zQ (gp Y) (ae 0) (ae 1)) (mR (zQ (gp Y) (jG (Ts:="bool") T.b_isinstance T.b_bool (ae 0)) (jG (Ts:="bool") T.b_isinstance T.b_bool (ae 1)))))))
theorem mL{f:bc}{Y:fg}(F:Fun K "_law_same" "_law_same" (top 50) f Y)(Z:mg "_law_same"=ar (.ref f))(T:Txt K mg):∀n,DefX P w K mg base (1+n) "_law_same" ["_law_found","_law_due"] (aU n)
 |0=>DefX.none F Z (F.binds λ_ _ _ _ _ _ us X=>match us,X with|[_,_],_=>rfl)
 |n+1=>tD F Z T (mL F Z T n)
theorem vS{f:bc}{Z:fg}(F:Fun K "_law_same" "_law_same" (top 50) f Z)(Y:mg "_law_same"=ar (.ref f))(T:Txt K mg):DefX P w K mg base 7 "_law_same" ["_law_found","_law_due"] eO:=mL F Y T 6
theorem EV{f:bc}{Q:fg}(F:Fun K "claws" "claws" (top 33) f Q)(O:mg "claws"=ar (.ref f))(T:Txt K mg)(Y:DefX P w K mg base 5 "need_web" ["thing"] cS)(X:DefX P w K mg base 6 "choices" ["things","size"] bG)(U:DefX P w K mg base 7 "near" ["web","place"] oW)(Z:DefX P w K mg base 7 "are_loose" ["web","some"] jD):DefX P w K mg base 8 "claws" ["web"] kz:=
 lZ (m:=qr) F O (F.binds λ_ _ _ _ _ _ us N=>match us,N with|[_],_=>rfl) ET rfl λR A outer s H E S=>
  aB (d8 (aH (dM Y (S.mono (by decide)) bZ.pass (af (ae 0) ak ag)))) (aK (aX (vd (rP (t:=m8) (t2:=m9) (m:=ng) (iu (Nc:=["place","some","web"]) (js:=[none,none,ar 0]) (av (top 33)) ["web"] (λ_=>rfl) rfl (by decide+kernel)) rfl (cG T.b_range (aP (ae 0) ay)) (λC ex s2 L=>⟨aN 0 (show(["place","some","web"]:List Str).Nodup by decide+kernel),eW,cZ (aH (aE X (S.mono (by decide)) (af (aH (aE U (S.mono (by decide)) (af (ae 2) (af (ae 0) ak ag) ag))) (af ay ak aG) aV))),aN 1 (show(["place","some","web"]:List Str).Nodup by decide+kernel),dD (cI (aH (aE Z (S.mono (by decide)) (af (ae 2) (af (ae 1) ak ag) ag)))),aH (cz (b8 (af (ae 0) ak ag)) (ae 1))⟩)))))
theorem p9{f:bc}{Y:fg}(F:Fun K "_law_refused" "_law_refused" (top 52) f Y)(U:mg "_law_refused"=ar (.ref f))(T:Txt K mg):RefX P w K mg 10 9 "_law_refused" ["_law_call"] bL:=
 IR (m:=gi) F U (F.binds λ_ _ _ _ _ _ us S=>match us,S with|[_],_=>rfl) b7 rfl λbase G a Q ql ds vs mm L Z A outer s H E X=>
  aB (bH 1 b7.nd mQ (hs:=wR)) (aB (IL rfl rfl L (X.mono (by decide)) b7.nd T.err G rfl (.inl rfl) rfl rfl rfl rfl rfl) (aB (bH 3 b7.nd (aH (bM (af (eZ T.err (by decide) G T.b_isinstance (ae 1)) (af (eZ T.err (by decide) G T.b_isinstance (ae 1)) (af (eZ T.err (by decide) G T.b_isinstance (ae 1)) ak aV) aV) aV))) (hs:=fX)) (aB (bH 3 b7.nd (aH (cz (ae 3) (aH (bM (af (eZ T.err (by decide) G T.b_isinstance (ae 1)) (af (eZ T.err (by decide) G T.b_isinstance (ae 1)) (af (eZ T.err (by decide) G T.b_isinstance (ae 1)) ak aV) aV) aV))))) (hs:=dN)) (aB (bH 3 b7.nd (aH (cz (ae 3) (aH (bM (af (eZ T.err (by decide) G T.b_isinstance (ae 1)) (af (eZ T.err (by decide) G T.b_isinstance (ae 1)) (af (eZ T.err (by decide) G T.b_isinstance (ae 1)) ak aV) aV) aV))))) (hs:=dN)) (aB (bH 3 b7.nd (aH (cz (ae 3) (aH (bM (af (eZ T.err (by decide) G T.b_isinstance (ae 1)) (af (eZ T.err (by decide) G T.b_isinstance (ae 1)) (af (eZ T.err (by decide) G T.b_isinstance (ae 1)) ak aV) aV) aV))))) (hs:=dN)) (aB (bH 3 b7.nd (aH (cz (ae 3) (aH (bM (af (eZ T.err (by decide) G T.b_isinstance (ae 1)) ak aV))))) (hs:=dN)) (aB (du (gr (cI (FS T.err T.b_isinstance T.b_ValueError (ae 1)))) (aK (aX mQ)) b9) (aK (aX (aH (eX (t:=eh) (m:=eu) (iu (Nc:=["_law_k","_law_marks"]) (js:=[none,ar 3]) (av (top 52)) ["_law_call","_law_error","e","_law_marks"] (λ_=>rfl) rfl (by decide+kernel)) rfl (cG T.b_range ay) (λC ex s2 R=>⟨aN 0 (show(["_law_k","_law_marks"]:List Str).Nodup by decide+kernel),dD (cI (aP (ae 1) (ae 0))),ae 0⟩))))))))))))
end
theorem Cc{P:eb}{w:eK}{K:c_}{U:Str->Option aC}{base:f'}{f c h:bc}{j:fg}(F:Fun K "law" "law" (top 56) f j)(T:Txt K U)(G:Mod K U base)(l:BaseL K U base)(TI:rL K)(g:z5 K gd "law"=ar (ar (.ref f)))(v:n7 K "law"=ar (c,h))(B:∀base,Mod K U base->DefX P w K U base 8 "claws" ["web"] kz)(Z:∀base,Mod K U base->DefX P w K U base 6 "odd_threes" ["web"] bf)(S:∀base,Mod K U base->DefX P w K U base 7 "odd_pair" ["web"] eN)(N:∀base,Mod K U base->DefX P w K U base 2 "_law_state" ["_law_script","_law_k"] iM)(J:∀base,Mod K U base->DefX P w K U base 1 "_law_take" ["_law_state_here","_law_many"] aD)(z:∀base,Mod K U base->DefX P w K U base 4 "_law_web" ["_law_state_here","_law_most"] fP)(Y:∀base,Mod K U base->DefX P w K U base 7 "_law_same" ["_law_found","_law_due"] eO)(Q:∀base,Mod K U base->DefX P w K U base 2 "_law_bad_web" ["_law_state_here"] gh)(R:RefX P w K U 10 9 "_law_refused" ["_law_call"] bL)(iF:∀f c es,bL f c es=bu c es)(O:∀base,Mod K U base->DefX P w K U base 2 "_law_claws" ["_law_web_here"] dI)(y:∀base,Mod K U base->DefX P w K U base 2 "_law_odd" ["_law_web_here"] fO)(I:∀base,Mod K U base->DefX P w K U base 2 "_law_pair" ["_law_web_here","_law_some"] fR):FnOk P w K U base (om P w) 11 f j ["_law_script"] (Dz K t9):=
 IQ (m:=D0) F kG rfl g v λA outer s H E x=>
  aB (eF (b:=lF) Oa rfl (cG T.b_range (oF rfl T.b_max (af ay (af (oG rfl T.b_min (af (fM T.b_len (ae 0)) (af ay ak aG) aV)) ak aV) aG))) (aN 1 kG.nd) (aB (bH 2 kG.nd (aE (N _ G) (x.mono (by decide)) (af (ae 0) (af (ae 1) ak ag) ag)) (hs:=gS)) (aB (bH 3 kG.nd (aH (aE (z _ G) (x.mono (by decide)) (af (ae 2) (af (aP (aH (bM (by (refine aZ ay ?_ aG;refine aZ ay ?_ aG;refine aZ ay ?_ aG;refine aZ ay ?_ aG;exact ak)))) (aH (aE (J _ G) (x.mono (by decide)) (af (ae 2) (af ay ak aG) ag)))) ak aY) ag))) (hs:=gS)) (aB (bH 4 kG.nd (aH (bM (af (aH (aE (O _ G) (x.mono (by decide)) (af (ae 3) ak ag))) (af (aH (aE (y _ G) (x.mono (by decide)) (af (ae 3) ak ag))) ak aV) aV))) (hs:=fX)) (aB (eF (b:=lE) Oa rfl (cG T.b_range ay) (aN 5 kG.nd) (aB (bH 6 kG.nd (bM (af (aE (B _ G) (x.mono (by decide)) (af (ae 3) ak ag)) (af (aE (Z _ G) (x.mono (by decide)) (af (ae 3) ak ag)) ak aV) aV)) (hs:=fX)) (aB (du (gr (cI (aH (aE (Y _ G) (x.mono (by decide)) (af (ae 6) (af (ae 4) ak ag) ag))))) (aK (aX i3)) b9) (aK (d8 (fQ (aP (ae 6) (ae 5)) (d5 6 rfl))))))) (aB (du (gr (cI (aH (aE (Y _ G) (x.mono (by decide)) (af (aH (aE (S _ G) (x.mono (by decide)) (af (ae 3) ak ag))) (af (aH (aE (I _ G) (x.mono (by decide)) (af (ae 3) (af (aP (ae 4) ay) ak aY) ag))) ak aV) aV))))) (aK (aX i3)) b9) (aB (bH 7 kG.nd (aH (aE (Q _ G) (x.mono (by decide)) (af (ae 2) ak ag))) (hs:=gS)) (DU (xl:="law") (L:=⟨_,_,_,["_law_bad"],[7],ib⟩) (by decide) v rfl rfl rfl l TI ⟨IM (N3:=["_law_bad"]) (js:=[7]) (av (top 56)) ["_law_script","_law_k","_law_state_here","_law_web_here","_law_due","_law_turn","_law_found","_law_bad","_law_calls"] (λ_=>rfl) rfl (by decide+kernel),rfl,λ_ _ _ _=>rfl,λt n f2 i o k u s2 q p r=>aH (dM (B _ n) (r.mono (by decide)) mY.pass (af (ae 0) ak ag))⟩ kG.nd rfl (by first|exact K_ rfl|exact y7 rfl) (.inl rfl) (DV (xl:="law") (L:=⟨_,_,_,["_law_bad"],[7],ic⟩) (by decide) v rfl rfl rfl l TI ⟨IM (N3:=["_law_bad"]) (js:=[7]) (av (top 56)) ["_law_script","_law_k","_law_state_here","_law_web_here","_law_due","_law_turn","_law_found","_law_bad","_law_calls"] (λ_=>rfl) rfl (by decide+kernel),rfl,λ_ _ _ _=>rfl,λt n f2 i o k u s2 q p r=>aH (dM (Z _ n) (r.mono (by decide)) mY.pass (af (ae 0) ak ag))⟩ (mM rfl (by first|exact K_ rfl|exact y7 (K_ rfl)|exact y7 (y7 rfl))) (show 1<=100 by decide) (DV (xl:="law") (L:=⟨_,_,_,["_law_bad"],[7],ie⟩) (by decide) v rfl rfl rfl l TI ⟨IM (N3:=["_law_bad"]) (js:=[7]) (av (top 56)) ["_law_script","_law_k","_law_state_here","_law_web_here","_law_due","_law_turn","_law_found","_law_bad","_law_calls"] (λ_=>rfl) rfl (by decide+kernel),rfl,λ_ _ _ _=>rfl,λt n f2 i o k u s2 q p r=>aH (dM (S _ n) (r.mono (by decide)) mY.pass (af (ae 0) ak ag))⟩ (mM rfl (by first|exact K_ rfl|exact y7 (K_ rfl)|exact y7 (y7 rfl))) (show 2<=100 by decide) (K2 ⟨R,iF,x.mono (by decide),λ_=>rfl,rfl,show 3<=100 by decide,iu (Nc:=["_law_call"]) (js:=[none]) (av (top 56)) ["_law_script","_law_k","_law_state_here","_law_web_here","_law_due","_law_turn","_law_found","_law_bad","_law_calls"] (λ_=>rfl) rfl (by decide+kernel),mM rfl (by first|exact K_ rfl|exact y7 (K_ rfl)|exact y7 (y7 rfl)),λC ex s2 q=>aN 0 (show(["_law_call"]:List Str).Nodup by decide+kernel),λC ex s2 q=>eT (mM rfl (.inl rfl)) j8,λC ex s2 q=>rfl,by decide,λC ex s2 q=>rfl,λ_=>rfl⟩ (aH (Ja (bM (af (aH (bM (af ay ak aG))) ak qk)) ay)) (λos=>C0 (X:=pin _ os) (gp x)) qe (aK (aX i3)) b9 b9))))))))))) (aK (aX i3))
abbrev lP:Program:=PySem.Challenge.rw_tiewebs_k51_claws_and_odd_threes.prog
abbrev kW(w:eK):W.Frag:=KH.K0 w.params
theorem fk{K:c_}{f c:bc}{m:aC}(x q:Str)(Z:p_)(l:K.lookup f=ar ⟨.type "function",none,.func (A_ x q (gO Z) (dz Z) (av Z) .none .none .none m none (.ref c) .none), #[]⟩)(h:R1 K (.ref c) q=cn)(k:z3 K (.ref f)=cn):Fun K x q Z f (A_ x q (gO Z) (dz Z) (av Z) .none .none .none m none (.ref c) .none):=HU l h k
abbrev nK(w:eK)(x:Str):Option (Option aC):=z5 (kW w) gd x
abbrev xS:Value:=KH.zs "law_tiewebs_k51_claws_and_odd_threes" 567
abbrev JL:Value:=KH.zs "tiewebs.bars" 518
abbrev Nh:Value:=KH.zs "tiewebs.crowds" 510
abbrev EX:Value:=KH.zs "tiewebs.webs" 426
theorem lJ{w:eK}{Y:Str->Option aC}{h:f'}(X:(kW w).In h)(G:h.Ns gd Y)(f c:bc)(m:aC)(x:Str)(Z:p_)(a:nK w x=ar (ar (.ref f)):=by kernel_rfl)(l:(kW w).lookup f=ar ⟨.type "function",none,.func (A_ x x (gO Z) (dz Z) (av Z) .none .none .none m none (.ref c) .none), #[]⟩:=by kernel_rfl)(j:R1 (kW w) (.ref c) x=true:=by kernel_rfl)(k:z3 (kW w) (.ref f)=true:=by kernel_rfl):Y x=ar (.ref f)/\Fun (kW w) x x Z f (A_ x x (gO Z) (dz Z) (av Z) .none .none .none m none (.ref c) .none):=⟨PU X G a,fk x x Z l j k⟩
theorem Ni(w:eK)(U:Str->Option aC)(fa:bc)(h:f')(X:(kW w).In h)(G:h.Ns gd U)(e6:U "law"=ar (.ref fa)):∃fd:fg,(∀(s:b_) (u:aC),N_ s fd ⟨[u],[]⟩ [("_law_script",u)])/\∀base:f',Mod (kW w) U base->BaseL (kW w) U base->FnOk lP w (kW w) U base (om lP w) 11 fa fd ["_law_script"] (Dz (kW w) t9):=by
 obtain⟨c4,b0⟩:=lJ X G 197 196 EX "is_whole" (top 17);obtain⟨c1,c2⟩:=lJ X G 204 203 EX "is_pair" (top 18);obtain⟨j1,e0⟩:=lJ X G 211 210 EX "is_place" (top 19);obtain⟨g8,g7⟩:=lJ X G 218 217 EX "is_tie" (top 20);obtain⟨b3,d3⟩:=lJ X G 223 222 EX "is_rising" (top 21);obtain⟨a3,j2⟩:=lJ X G 228 227 EX "is_web" (top 22);obtain⟨g4,h8⟩:=lJ X G 235 234 EX "need_web" (top 23);obtain⟨h1,l2⟩:=lJ X G 242 241 EX "need_place" (top 24);obtain⟨e5,h4⟩:=lJ X G 247 246 EX "choices" (top 25);obtain⟨b5,e1⟩:=lJ X G 254 253 EX "are_tied" (top 26);obtain⟨d1,b6⟩:=lJ X G 259 258 EX "near" (top 27);obtain⟨e2,c0⟩:=lJ X G 264 263 Nh "joins" (top 29);obtain⟨a5,h7⟩:=lJ X G 269 268 JL "are_loose" (top 32);obtain⟨k2,i1⟩:=lJ X G 274 273 JL "claws" (top 33);obtain⟨i0,k3⟩:=lJ X G 279 278 JL "threes" (top 34);obtain⟨l1,d2⟩:=lJ X G 284 283 JL "makes_odd" (top 35);obtain⟨k0,l3⟩:=lJ X G 289 288 JL "odd_threes" (top 36);obtain⟨b4,d0⟩:=lJ X G 294 293 JL "is_odd_pair" (top 37);obtain⟨c6,f3⟩:=lJ X G 301 300 JL "odd_pair" (top 38);obtain⟨k5,a0⟩:=lJ X G 308 307 xS "_law_tied" (top 40);obtain⟨c5,e7⟩:=lJ X G 315 314 xS "_law_cell_at" (top 41);obtain⟨k8,e3⟩:=lJ X G 322 321 xS "_law_state" (top 42);obtain⟨k4,a4⟩:=lJ X G 329 328 xS "_law_take" (top 43);obtain⟨h2,l4⟩:=lJ X G 334 333 xS "_law_drawn" (top 44);obtain⟨f6,a6⟩:=lJ X G 341 340 xS "_law_made" (top 45);obtain⟨k7,e4⟩:=lJ X G 348 347 xS "_law_mixed" (top 46);obtain⟨c7,i2⟩:=lJ X G 355 354 xS "_law_few_ties" (top 47);obtain⟨b1,g0⟩:=lJ X G 362 361 xS "_law_named" (top 48);obtain⟨e8,k6⟩:=lJ X G 367 366 xS "_law_web" (top 49);obtain⟨l6,b2⟩:=lJ X G 372 371 xS "_law_same" (top 50);obtain⟨g5,k1⟩:=lJ X G 379 378 xS "_law_bad_web" (top 51);obtain⟨h5,g6⟩:=lJ X G 384 383 xS "_law_refused" (top 52);obtain⟨h9,h3⟩:=lJ X G 389 388 xS "_law_claws" (top 53);obtain⟨h6,l5⟩:=lJ X G 394 393 xS "_law_odd" (top 54);obtain⟨l0,f5⟩:=lJ X G 399 398 xS "_law_pair" (top 55);have a:nK w "law"=ar (ar (.ref 404)):=by kernel_rfl
 have j0:=@fk (kW w) 404 403 (KH.zs "law_tiewebs_k51_claws_and_odd_threes" 567) "law" "law" (top 56) (by kernel_rfl) (by kernel_rfl) (by kernel_rfl);obtain⟨⟨ct,Pt⟩,b⟩:=OX.mp (show(n7 (kW w) "law").isSome=cn by kernel_rfl);have e:=e6.symm.trans (PU X G a);cases e;have T:Txt (kW w) U:=⟨by kernel_rfl,by kernel_rfl,N1 X G (by kernel_rfl),N1 X G (by kernel_rfl),N1 X G (by kernel_rfl),N1 X G (by kernel_rfl),N1 X G (by kernel_rfl),N1 X G (by kernel_rfl),N1 X G (by kernel_rfl),N1 X G (by kernel_rfl),N1 X G (by kernel_rfl),N1 X G (by kernel_rfl),N1 X G (by kernel_rfl),N1 X G (by kernel_rfl),N1 X G (by kernel_rfl),N1 X G (by kernel_rfl),N1 X G (by kernel_rfl),N1 X G (by kernel_rfl),⟨428,PU X G (by kernel_rfl)⟩,⟨520,PU X G (by kernel_rfl)⟩⟩;refine⟨A_ "law" "law" (gO (top 56)) (dz (top 56)) (av (top 56)) .none .none .none (KH.zs "law_tiewebs_k51_claws_and_odd_threes" 567) none (.ref 403) .none,λs v=>.of_eq rfl,λbase GM BL=>?_⟩;have J:=λbase (GB:Mod (kW w) U base)=>xF (P:=lP) (w:=w) (base:=base) b0 c4 T;have E:=λbase (GB:Mod (kW w) U base)=>zq (P:=lP) (w:=w) (base:=base) c2 c1 T;have q:=λbase (GB:Mod (kW w) U base)=>vL (P:=lP) (w:=w) (base:=base) d3 b3 T;have Y:=λbase (GB:Mod (kW w) U base)=>xG (P:=lP) (w:=w) (base:=base) e1 b5 T;have S:=λbase (GB:Mod (kW w) U base)=>vM (P:=lP) (w:=w) (base:=base) a0 k5 T;have H:=λbase (GB:Mod (kW w) U base)=>p7 (P:=lP) (w:=w) (base:=base) e7 c5 T;have Z:=λbase (GB:Mod (kW w) U base)=>vN (P:=lP) (w:=w) (base:=base) a4 k4 T;have r:=λbase (GB:Mod (kW w) U base)=>vO (P:=lP) (w:=w) (base:=base) a6 f6 T;have A:=λbase (GB:Mod (kW w) U base)=>td (P:=lP) (w:=w) (base:=base) g0 b1 T;have K:=λbase (GB:Mod (kW w) U base)=>xH (P:=lP) (w:=w) (base:=base) e0 j1 T (J base GB);have f:=λbase (GB:Mod (kW w) U base)=>EU (P:=lP) (w:=w) (base:=base) c0 e2 T (Y base GB);have n:=λbase (GB:Mod (kW w) U base)=>vP (P:=lP) (w:=w) (base:=base) d2 l1 T (Y base GB);have C:=λbase (GB:Mod (kW w) U base)=>sG (P:=lP) (w:=w) (base:=base) d0 b4 T (Y base GB);have x:=λbase (GB:Mod (kW w) U base)=>tj (P:=lP) (w:=w) (base:=base) e3 k8 T (H base GB);have B:=λbase (GB:Mod (kW w) U base)=>tm (P:=lP) (w:=w) (base:=base) l4 h2 T (Z base GB);have O:=λbase (GB:Mod (kW w) U base)=>tq (P:=lP) (w:=w) (base:=base) e4 k7 T (Z base GB);have F:=λbase (GB:Mod (kW w) U base)=>p8 (P:=lP) (w:=w) (base:=base) k1 g5 T (Z base GB);have z:=λbase (GB:Mod (kW w) U base)=>tu (P:=lP) (w:=w) (base:=base) h3 h9 T (S base GB);have k:=λbase (GB:Mod (kW w) U base)=>xI (P:=lP) (w:=w) (base:=base) l5 h6 T (S base GB);have p:=λbase (GB:Mod (kW w) U base)=>vQ (P:=lP) (w:=w) (base:=base) f5 l0 T (S base GB);have g:=λbase (GB:Mod (kW w) U base)=>B9 (P:=lP) (w:=w) (base:=base) g7 g8 T (E base GB) (K base GB);have i:=λbase (GB:Mod (kW w) U base)=>Ca (P:=lP) (w:=w) (base:=base) k3 i0 T (f base GB);have L:=λbase (GB:Mod (kW w) U base)=>pB (P:=lP) (w:=w) (base:=base) i2 c7 T (Z base GB) (O base GB);have j:=λbase (GB:Mod (kW w) U base)=>Cb (P:=lP) (w:=w) (base:=base) j2 a3 T (J base GB) (E base GB) (g base GB) (q base GB);have l:=λbase (GB:Mod (kW w) U base)=>xJ (P:=lP) (w:=w) (base:=base) k6 e8 T (Z base GB) (B base GB) (r base GB) (O base GB) (L base GB) (A base GB);have R:=λbase (GB:Mod (kW w) U base)=>xK (P:=lP) (w:=w) (base:=base) h8 g4 T (j base GB);have y:=λbase (GB:Mod (kW w) U base)=>tw (P:=lP) (w:=w) (base:=base) l2 h1 T (K base GB) (R base GB);have N:=λbase (GB:Mod (kW w) U base)=>zv (P:=lP) (w:=w) (base:=base) h4 e5 T;have Q:=λbase (GB:Mod (kW w) U base)=>tx (P:=lP) (w:=w) (base:=base) l3 k0 T (R base GB) (i base GB) (n base GB);have c:=λbase (GB:Mod (kW w) U base)=>GQ (P:=lP) (w:=w) (base:=base) b6 d1 T (y base GB) (Y base GB);have o:=λbase (GB:Mod (kW w) U base)=>vR (P:=lP) (w:=w) (base:=base) h7 a5 T (N base GB) (Y base GB);have m:=λbase (GB:Mod (kW w) U base)=>xN (P:=lP) (w:=w) (base:=base) f3 c6 T (N base GB) (Q base GB) (C base GB);have t:=λbase (GB:Mod (kW w) U base)=>vS (P:=lP) (w:=w) (base:=base) b2 l6 T;have d:=λbase (GB:Mod (kW w) U base)=>EV (P:=lP) (w:=w) (base:=base) i1 k2 T (R base GB) (N base GB) (c base GB) (o base GB);have I:RefX lP w (kW w) U 10 9 "_law_refused" ["_law_call"] bL:=p9 g6 h5 T;exact Cc j0 T GM BL (IP (show G3 (kW w)=cn by kernel_rfl)) a b d Q m x Z l t F I iF z k p
end W
section
namespace W
open PySem PySem.Spec PyProof.Rows L2 S3 S4 S7
theorem JM(K:c_)(H:Hp)(a:bc)(ns:List Int)(U:TabsOk K H)(Z:E3 K H a (ns.map V.int)):Dz K t9 [.ref a] H (λv _=>v= .bl cn) λ_ _ _=>False:=by obtain⟨d,T,e,hd⟩:=Lx (S:=[]) (ns:=ns);refine⟨[],[],[.ro (ns.map D.int)],⟨.nil,rfl,(λk a xs h=>by cases h),U⟩,.cons (.ro Z (rg ns)) .nil,?_⟩;refine⟨.ok d,T,e,λX R _ _=>?_⟩;subst hd;intro v Y;cases Y;rfl
theorem walk{l:Tv}{q:eb}{loose:List Str}{XP:(Str->Option aC)->f'->Prop}{YP:eK->f'->Prop}{d:T5}{K:O'->c_}(S:l.most=ar 63)(Y:d.params.defaults=[])
  (X:∀(w:eK) (h:f'),YP w h->(K w.params).In h) (R:∀w:eK,T4 (K w.params)=cn)
  (Z:∀(w:eK) (h:f'),YP w h->∀y∈cu,∀c Q,n7 (K w.params) y=ar (c,Q)->R4 h c Q/\h.get? Q=ar (z6 #[]))
  (F:∀(w:eK) (mg:Str->Option aC) (fa:bc) (h:f'),(K w.params).In h->h.Ns gd mg->mg d.name=ar (.ref fa)->
   ∃fd:fg,(∀(s:b_) (u:aC),N_ s fd ⟨[u],[]⟩ [("_law_script",u)])/\∀base:f',Mod (K w.params) mg base->BaseL (K w.params) mg base->FnOk l.prog w (K w.params) mg base (om l.prog w) 11 fa fd ["_law_script"] (Dz (K w.params) t9)):
  Uc q loose XP YP l.row.toRowW d [] (λf vs=>PySem.call f vs):=
 DF (n:=63) (k:=11) (x:="_law_script") (sp:=λw=>Dz (K w.params) t9) S (by decide) Y ⟨rfl,by decide,by decide⟩ X R Z F λw H a ns _ U T=>JM (K w.params) H a ns U T
end W
open PySem PySem.W PyProof.Rows
set_option maxRecDepth 100000 in
set_option maxHeartbeats 0 in
theorem PySem.Challenge.cw_tiewebs_k51_claws_and_odd_threes_holds : PySem.Challenge.rw_tiewebs_k51_claws_and_odd_threes.Holds := by
 w_on;o_law
 refine holds_open (q:=KH.vq) (loose:=[]) (Xt:=KH.Xt0) (XP:=XL KH.vq []) (Yf:=TL (RX KH.K0 KH.as0 KH.as0_eq KH.ts0)) (Ya:=TN (RX KH.K0 KH.as0 KH.as0_eq KH.ts0)) (YP:=Hook.says (RX KH.K0 KH.as0 KH.as0_eq KH.ts0)) (N:=8282) KH.left0 (Hook.of (RX KH.K0 KH.as0 KH.as0_eq KH.ts0)) (Hook.keeps (RX KH.K0 KH.as0 KH.as0_eq KH.ts0)) (fun s e=>xl_of s (Pf.mp e).1) XL.keeps (by rfl) (by rfl) (by rfl) (fun s e=>recFacts_of (Pf.mp e).2) (by rfl) (by first|assumption|decide+kernel) (by decide+kernel) ⟨rfl,rfl,rfl,rfl,rfl,by decide+kernel⟩ ?hw ?hc
 case hw=>w_witness2
 refine W.walk (l:=PySem.Challenge.rw_tiewebs_k51_claws_and_odd_threes) rfl rfl (fun w h Y=>PySem.W.km_in_of Y) ?nt (fun w h Y=>S7.MA (w:=w) ?ck Y) W.Ni
 case nt=>intro w;kernel_rfl
 case ck=>kernel_rfl
end
