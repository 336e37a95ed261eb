import PyProof.Rows.All
import Wide.All
import OpenK.AllK
import Wide.FinOn
import PySem.Challenge.RW_tiewebs_k91_texts_that_write_none
import Lean
import PyProof.EqAt
import PyProof.EqKinds
import PyProof.TupleCall
import PyProof.SetScanFacts
import PyProof.EnumMake
import PyProof.Draws
import PyProof.ExcInit
import PyProof.ExcClass3
import PyProof.InstStore
import KE.KUnpack
import PyProof.P3In
import PyProof.StrWalks
import PyProof.MeetsStr2
import PyProof.StrBlockL
import PyProof.StrLawsJoin
import PyProof.FString
import KE.KIntText
import PyProof.StrLawsTight
import PyProof.StrBlockI
import PyProof.StrLaws
set_option Elab.async false
set_option compiler.extract_closed false
set_option linter.all false
set_option maxRecDepth 100000
set_option maxHeartbeats 8000000
noncomputable section
open Option renaming some->ar,isNone->E2,map_some->F_,bind_some->RE
open Pure renaming pure->aw
open PySem renaming Value->aC,Shared->a_,Addr->b_,starEach->dV,wpAny->d_,Program->eb,World->er,model->eK,Heap->fg,mainGlobals->f_,FuncData->f',eval->g6,Around->g_,compareOp->ip,attributeBase->j7,cellsFrom->j_,importedModules->kS,IsTupleKey->k7,bootBuiltins->la,SetTable->lp,behindInMarks->ly,swapsWith->l_,rawInt->mv,NameKind->m_,intKind->n4,foldedSetIterable->n7,PyData->o_,assignEach->pb,IsPair->q_,Stmt->sb,binaryOp->t_,backTo->u',builtinsNs->y_,sliceBounds->z4,cLine->A',callerA->B_,holding->J',codeAny->K_,pyNext->L0,firstArgMember->O_,BindsTo->Q8,ofAClassStatement->Q_,Params->Rx,swapsWithSole->RA,swappedStores->RC,treeTable->RG,lastMarks->RH,codeAmong->RJ,checkBuiltinCall->RK,IsZip->RL,letOwnedTupleGo->RP,GenState->RT,assign->RW,IsPart->RY,OsState->R1,PassesOwn->R5,leaving->R6,Arguments->R7,noteFrame->R9,assignInOrder->Sd,seq_tuple_add->Se,bindName->Sj,concat_meets->Sl,getItem->Sn,evalEach->Sv,seqIndex?->Sy,isSubtype->SD,pickOrder->SF,Model->SK,seqIndex_of->SL,hashByValue->SM,wpAny_of_eq->SN,wpAny_letGo->SQ,Keyword->SR,sysModules->SU,wpAny_Name->SV,pyIter->SW,again->SX,bindArgs->SY,bindL->SZ,bindC->S8,closureFor->S9,setsByText->Td,field->Te,ZipApart->Tf,TriplesOk->Tp,seqItems?->Tq,onTheHeap->Tt,standAt->Tu,CmpOp->TH,entryFor->TQ,slotArgs->TR,Result->T4,typeOf->T5,DefRec->T6,argsOk->T9,newExc->T_,setItem->Ua,getAttr->Ub,newList->Ug,collect->Uh
open Bool renaming true->c_,false->dr,false_eq_true->eo,and_eq_true->hO,not_true->EA,or_eq_true->G_,not_eq_true'->Rg,and_false->RS,and_self->Sg
open PySem.W renaming Frag->dt,tabIn->mu,kitOne->rn,kas_place->u4,kas_asc->u5,kas_desc->vr,nsIn->v_,kas_rev->w_,kas_sort->y3,openSeen->z_,openGood->A2,keepIn->A_,tabObj->B',fnOf->C_,kla_obj->D_,InstAt->F0,findIn->H_,boot_heap->LI,behindTheImports->RF,findIn->RI,kmHook->RU,codeIn->RX,CodeHd->R0,kas_bin->R8,lookIn->Sk,kas_descPart->Sq,kas_count->Sz,methodObj->SH,kitAny->S_,instObj->Th,OpenLaw->Tn,kas_tail3->To,mroIn->Tr,findObj->Tw,excIn->Tz,clsIn->TB,exmOne->TU,kla_fn->TV,notCls->TX,noTabs->TY,KasT->T7,OpenLaw->Uc,WalkO->Ud,clsIn->Ui,Frag->Uj
open PySem.Value renaming ref->ee,none->hY,str->k8,int->oi,bool->u_,type->y7,builtin->E1,float->RV
open PySem.SetTable renaming insertAt->eg,below->y4,fresh->M',turns->N_,below->RZ,runEnd->Ta,advance->Tv,bits->TK,turns->TL
open List renaming range->ey,not_mem_nil->e_,mem_cons->gg,replicate->k_,lookup_cons->lb,length->nC,size_toArray->n3,getD_eq_getElem?_getD->oo,length_cons->ra,all_eq_true->rb,range'->r_,length_nil->G3,nil_append->Ic,drop_succ_cons->J_,toArray->K',cons_append->RM,forIn_cons->RQ,drop_zero->RR,map_cons->R_,all_cons->Sa
open PySem.PyData renaming eqv->g8,eqvAll->kT,depthAll->u0,list->wh,int->O',strOk->Sr
open PySem.NameKind renaming free->h_,cell->q0
open PySem.Builtin.Str renaming occurrences->i_,strSub->kr,strSliceIndices->lx,strKind->y1
open False renaming elim->j1
open PySem.Str renaming ofString->j2,empty->ri
open PySem.Builtin.SmallTypes renaming nextOf->j3,ownedTupleIsFree->k'
open Ne renaming symm->j'
open PySem.Obj renaming mapSeq->mh,mapFields->EW,putSet->RN
open PyProof.Rows renaming IntsAre->n_,seqObj->x',AllBare->D',envOfC->G2,IsTup->Tg,test_link->Ti,ite_ff->TZ,ite_tt->T3,bubble->T8
open PySem.Builtin.Slice renaming slicePlaces->pa,sliceAdjust->x_
open True renaming intro->p4
open PySem.Builtin.Tuple renaming tupleExact->p_
open PySem.Heap renaming SameBut->s_
open Array renaming replicate->u3,mk->E_,length_toList->I_,getD->Tc
open PySem.Builtin.List renaming listTooLong->y2
open ForInStep renaming yield->G4
open ToString renaming toString->L_
open List.Perm renaming cons->M_
open Int renaming toNat_natCast->P_
open PySem.SetTable.layClean renaming free->RD
open PySem.NumText renaming step->RO
open Sum renaming inl->R3,inr->R4
open PySem.Shared renaming TypeIs->Sh
open Or renaming inr->Si,inl->SC
open PySem.W.KasT renaming ret->So
open Nat renaming zero_add->Ss,sub_self->Sw,succ_mul->Sx
open PySem.pickOrder renaming go->Su
open PySem.SetTable.below renaming go->Tb
open LawfulBEq renaming eq_of_beq->Tj
open PySem.W.Hook renaming obs->TC,val->TF
open PySem.SetTable.probe renaming go->TN
open ForIn renaming forIn->Ue
abbrev Np:=@PySem.wpAny_bind
abbrev Nq:=@PySem.Heap.get?_push_of_some
abbrev Nr:=@List.length_append
abbrev Nt:=@List.length_map
abbrev Nu:=@Nat.le_refl
abbrev Nv:=@PySem.wpAny_pure
abbrev Nw:=@List.getElem?_eq_getElem
abbrev Nx:=@List.getElem?_eq_some_iff
abbrev Ny:=@PySem.Heap.lt_size
abbrev Nz:=@Nat.le_trans
abbrev NA:=@PySem.Heap.get?_push_size
abbrev NB:=@gg
abbrev NC:=@oo
abbrev ND:=@Array.getElem?_eq_getElem
abbrev NF:=@List.mem_cons_of_mem
abbrev NG:=@n3
abbrev NH:=@ra
abbrev NI:=@R_
abbrev NJ:=@decide_eq_true
abbrev NK:=@Nat.lt_of_lt_of_le
abbrev NL:=@Nat.ne_of_lt
abbrev NM:=@List.mem_cons_self
abbrev NN:=@Nat.zero_le
abbrev NO:=@List.length_drop
abbrev NP:=@List.getElem?_map
abbrev NQ:=@decide_eq_false
abbrev NR:=@Array.getElem?_eq_some_iff
abbrev NS:=@List.mem_append_right
abbrev NT:=@rb
abbrev NU:=@List.mem_of_getElem?
abbrev NV:=@List.mem_singleton
abbrev NW:=@Option.some.inj
abbrev NX:=@congrFun
abbrev NY:=@Array.getElem?_toList
abbrev NZ:=@List.append_assoc
abbrev N0:=@List.map_map
abbrev N1:=@List.mem_range
abbrev N4:=@List.getElem?_append_left
abbrev N5:=@List.length_take
abbrev N6:=@PySem.W.mg_none_of
abbrev N7:=@Array.getD_eq_getD_getElem?
abbrev N8:=@List.mem_map
abbrev N9:=@List.getElem?_set_self
abbrev Oa:=@PySem.Heap.get?_update_other
abbrev Ob:=@List.mem_of_mem_drop
abbrev Oc:=@List.cons.inj
abbrev Od:=@decide_eq_true_eq
abbrev Oe:=@List.take_of_length_le
abbrev Of:=@congrArg
abbrev Og:=@PySem.wpAny_newObj_type
abbrev Oh:=@lb
abbrev Oi:=@List.mem_append
abbrev Oj:=@List.getElem?_eq_none
abbrev Ol:=@List.filterMap_cons
abbrev Om:=@List.append_nil
abbrev On:=@List.pairwise_cons
abbrev Oo:=@PySem.sizeLine_eq
abbrev Oq:=@Int.eq_ofNat_of_zero_le
abbrev Os:=@PySem.W.kia_one
abbrev Ot:=@PySem.wpAny_truthy_bool
abbrev Ou:=@List.getElem?_set_ne
abbrev Ov:=@PySem.wpAny_holding
abbrev Ow:=@List.nodup_cons
abbrev Ox:=@PySem.wpAny_field
abbrev Oy:=@PySem.Heap.get?_update_self
abbrev Oz:=@PySem.wpAny_call_entry
abbrev OA:=@hO
abbrev OB:=@P_
abbrev OC:=@of_decide_eq_true
abbrev OD:=@List.length_range
abbrev OE:=@List.mem_of_mem_take
abbrev OF:=@List.map_append
abbrev OG:=@List.getElem_mem
abbrev OH:=@Option.isSome_iff_exists
abbrev OI:=@PySem.Heap.size_push
abbrev OJ:=@PySem.W.kia_tup
abbrev OK:=@List.cons_ne_nil
abbrev OL:=@Array.getElem?_eq_none
abbrev OM:=@PySem.wpAny_mono
abbrev ON:=@PyProof.Rows.slot_tuple_getitem
abbrev OO:=@PySem.wpAny_setState_of
abbrev OP:=@PySem.Heap.SameBut.update
abbrev OQ:=@PySem.wpAny_seqItems
abbrev OR:=@List.mem_filterMap
abbrev OS:=@Bool.false_ne_true
abbrev OT:=@PySem.Obj.data_mapFields
abbrev OU:=@PySem.Heap.get?_none_of_le
abbrev OV:=@Nat.lt_irrefl
abbrev OW:=@List.map_nil
abbrev OX:=@Nat.lt_succ_of_lt
abbrev OY:=@PyProof.Rows.callWith_type1
abbrev OZ:=@Bool.eq_iff_iff
abbrev O0:=@PySem.PassesOwn.never
abbrev O1:=@PySem.F.slot_tuple_iterator_next
abbrev O2:=@Nat.le_of_lt
abbrev O3:=@Nat.ne_of_gt
abbrev O4:=@Int.emod_lt_of_pos
abbrev O5:=@List.getElem?_toArray
abbrev O6:=@List.take_append_drop
abbrev O7:=@PySem.wpAny_setField_rec
abbrev O8:=@List.append_eq_append_iff
abbrev O9:=@List.mem_append_left
abbrev Pa:=@PySem.Around.under_plainId
abbrev Pb:=@PySem.wpAny_passesOwn
abbrev Pc:=@List.count_append
abbrev Pd:=@PySem.mem_of_lookup
abbrev Pe:=@I_
abbrev Pf:=@Bool.true_and
abbrev Pg:=@PySem.W.mg_of
abbrev Ph:=@RE
abbrev Pi:=@Bool.not_eq_true
abbrev Pj:=@Bool.false_and
abbrev Pk:=@RR
abbrev Pl:=@PySem.wpAny_setField
abbrev Pm:=@PySem.Heap.size_after_update
abbrev Pn:=@List.drop_of_length_le
abbrev Po:=@PySem.wpAny_Call_Name_kw
abbrev Pp:=@PySem.wpAny_execs_nil
abbrev Pq:=@PySem.codeAny_mono
abbrev Pr:=@Int.emod_nonneg
abbrev Pu:=@List.mem_iff_getElem?
abbrev Pw:=@PySem.codeAny_builtin
abbrev Px:=@PySem.Obj.isFreed_of_fields
abbrev Py:=@List.length_filter_le
abbrev Pz:=@List.set_append_right
abbrev PB:=@List.getElem?_append_right
abbrev PC:=@List.getElem?_zip_eq_some
abbrev PD:=@List.drop_drop
abbrev PF:=@Nat.succ_le_succ
abbrev PH:=@PySem.wpAny_askSetting
abbrev PK:=@PySem.wpAny_isInstance
abbrev PL:=@List.getElem?_range
abbrev PM:=@List.Perm.nodup_iff
abbrev PN:=@Int.toNat_of_nonneg
abbrev PP:=@PySem.F.args_tuple_add_2
abbrev PQ:=@PySem.typeIs_str
abbrev PR:=@Nat.le_of_eq
abbrev PU:=@PySem.wpAny_pyIter_tuple
abbrev PV:=@List.of_mem_zip
abbrev PX:=@PySem.F.entry_tuple_add
abbrev PY:=@List.length_set
abbrev PZ:=@Array.Perm.refl
abbrev P0:=@PyProof.Rows.F.plain_set_update_loop
abbrev P1:=@PySem.wpAny_attempt
abbrev P2:=@List.getElem?_take
abbrev P3:=@List.filter_cons_of_pos
abbrev P4:=@List.filter_cons_of_neg
abbrev P5:=@PySem.W.cellsFrom_some
abbrev P6:=@PySem.F.slot_tuple_add
abbrev P7:=@PySem.W.kitx_list
abbrev P8:=@PySem.W.kitx_dict
abbrev P9:=@Nat.le_succ
abbrev Qa:=@PySem.call_meets
abbrev Qb:=@Nat.le_of_succ_le
abbrev Qc:=@Nat.lt_trichotomy
abbrev Qd:=@List.mem_range'_1
abbrev Qe:=@List.ext_getElem?
abbrev Qf:=@Prod.ext
abbrev Qg:=@PySem.isSubtype_type
abbrev Qh:=@PySem.wpAny_typeOf
abbrev Qi:=@List.length_singleton
abbrev Qj:=@Nat.lt_trans
abbrev Qk:=@List.all_map
abbrev Ql:=@PySem.builtinLookup_eq_fast
abbrev Qm:=@PySem.StrLaws.glued_eq_join
abbrev Qn:=@PySem.wpAny_forIn_list
abbrev Qo:=@Nat.le_of_not_lt
abbrev Qp:=@Nat.lt_succ_self
abbrev Qq:=@Nat.le_add_right
abbrev Qs:=@PySem.wpAny_pyIter_zip
abbrev Qt:=@PySem.F.slot_str_split
abbrev Qu:=@Nat.min_eq_right
abbrev Qv:=@e_
abbrev Qw:=@List.count_eq_zero_of_not_mem
abbrev Qx:=@Array.mem_toList_iff
abbrev Qy:=@PySem.wpAny_updateSeq_pair
abbrev Qz:=@List.count_le_length
abbrev QA:=@List.drop_eq_nil_iff
abbrev QB:=@PySem.F.args_tuple_iterator_next_1
abbrev QC:=@PySem.wpAny_rule
abbrev QD:=@PySem.wpAny_setEntries_of
abbrev QE:=@PySem.Heap.get?_update_ne
abbrev QF:=@PySem.F.entry_tuple_iterator_next
abbrev QG:=@PySem.F.slot_zip_next
abbrev QH:=@Nat.min_eq_left
abbrev QI:=@List.takeWhile_cons
abbrev QJ:=@PySem.Calls.Name_function_global
abbrev QK:=@List.length_eraseIdx_of_lt
abbrev QL:=@List.perm_ext_iff_of_nodup
abbrev QM:=@PySem.F.excBase_ValueError
abbrev QN:=@PyProof.Rows.assignInOrder_cons
abbrev QO:=@List.zip_cons_cons
abbrev QP:=@Nat.lt_of_le_of_lt
abbrev QQ:=@Int.zero_add
abbrev QR:=@List.getElem?_drop
abbrev QS:=@PySem.F.args_str_split_2
abbrev QT:=@List.length_range'
abbrev QU:=@List.drop_eq_getElem_cons
abbrev QV:=@RS
abbrev QW:=@Classical.byContradiction
abbrev QX:=@List.pairwise_iff_getElem
abbrev QY:=@PySem.isSubtype_stop
abbrev QZ:=@PySem.wpAny_letOwnedTupleGo_zip
abbrev Q0:=@PySem.wpAny_pyIter_list
abbrev Q2:=@PySem.W.kitx_none
abbrev Q3:=@PySem.wpAny_call
abbrev Q4:=@List.getElem?_take_of_lt
abbrev Q5:=@PyProof.Rows.intsAre_of
abbrev Q6:=@Nat.le_succ_of_le
abbrev Q7:=@Nat.mod_lt
abbrev Q9:=@Bool.eq_false_iff
abbrev Ra:=@Array.getElem?_replicate
abbrev Rb:=@PySem.Obj.cls_mapFields
abbrev Rc:=@PySem.F.entry_str_split
abbrev Re:=@PySem.StrLaws.subAt_one
abbrev Rf:=@PySem.wpAny_standAt
abbrev Rh:=@PySem.plainId_quiet
abbrev Ri:=@List.length_eq_zero_iff
abbrev Rj:=@PySem.wpAny_onRaise
abbrev Rk:=@decide_eq_false_iff_not
abbrev Rl:=@List.sum_cons
abbrev Rm:=@PySem.wpAny_eqBool_int
abbrev Rn:=@PySem.wpAny_execs_cons
abbrev Ro:=@PySem.noFill_tuple_add
abbrev Rp:=@List.all_toArray
abbrev Rq:=@PyProof.Rows.IsTup.new
abbrev Rr:=@Nat.not_lt_zero
abbrev Rt:=@PySem.pushCells_keeps
abbrev Ru:=@Nat.sub_zero
abbrev Rv:=@PySem.typeLookup_type
abbrev Rw:=@Bool.and_assoc
abbrev Ry:=@Sa
abbrev Rz:=@List.map_drop
abbrev RB:=@Nat.not_lt
namespace KH
open PySem PySem.W PySem.Spec PyProof.Rows
def tp(i:Nat):Stmt:=PySem.Challenge.pw_tiewebs_k91_texts_that_write_none.main.body.getD i (.Pass ⟨0,0,0,0⟩)
def iC:sb->sb
 | .ClassDef _ _ _ (b::_) .. =>b
 |s=>s
def dA(s:sb):Arguments:=match s with
 | .FunctionDef _ a _ _ _ _ _ _ _ _=>a
 |_=>{posonlyargs:=[],args:=[],vararg:=none,kwonlyargs:=[],kw_defaults:=[],kwarg:=none,defaults:=[]}
def dB(s:sb):List Stmt:=match s with
 | .FunctionDef _ _ b _ _ _ _ _ _ _=>b
 |_=>[]
def dS(s:sb):Scope:=match s with
 | .FunctionDef _ _ _ _ _ _ sc _ _ _=>sc
 |_=>{kind:=.function,names:=[],isGenerator:=dr,isCoroutine:=dr}
def zs(x:String)(t:Nat):Value:=.str (j2 x) t
def ze(P:Rx)(x:String)(t:Nat)(v:aC):DictEntry:=⟨PyData.keyHash P (j2 x),zs x t,v⟩
def zt(xs:Array aC):Obj:=⟨.type "tuple",none,.seq xs, #[]⟩
def zc(n q:String)(a:Nat)(l ac p5 p6 fl:Int)(r8:aC)(p10:Int)(r11 r13 r14 r15:aC)(p16:Int)(t:Nat):Obj:=⟨.type "code",none,.fields #[zs n a,zs q (a+1),zs "/claim/cut.py" (a+2),.int l 0,.int ac 0,.int p5 0,.int p6 0,.int fl 0,r8,.bool c_,.int p10 0,r11,.none,r13,r14,r15,.int p16 0,.int l 0,zs "/claim/cut.py" t], #[]⟩
def zf(n q:String)(st:sb)(kV dc pm:aC)(an:Option b_)(cd ct:aC):Data:=.func (C_ (j2 n) (j2 q) (dA st) (dB st) (dS st) .none kV dc pm an cd ct)
def zg(n q:String)(st:sb):Obj:=⟨.none,none,.func {name:=j2 n,qualname:=j2 q,params:=dA st,body:=.stmts (dB st),scope:=dS st,globals:=0,closure:=[],defaults:=.none,kwdefaults:=.none}, #[]⟩
def z0:Obj:=⟨.none,none,.fields #[],#[]⟩
def zp:Obj:=⟨.type "builtin_function_or_method",none,.fields #[.builtin "type.__prepare__",.type "type"],#[]⟩
def zu(a:Nat):Obj:=⟨.type "super",none,.fields #[.ref a,.ref a,.ref a],#[]⟩
def zi(a:Nat):Obj:=⟨.type "builtin_function_or_method",none,.fields #[.builtin "object.__init_subclass__",.ref a],#[]⟩
def zr(a b:Nat)(v:aC):Obj:=⟨.type "frame",none,.plain,#[ar (.ref a),ar (.ref 3),ar (.ref b),none,ar v,none,ar (.ref 0)]⟩
def zk(n:String)(a b c:Nat)(l:Int)(r:Nat)(m:Int)(s:Nat)(x y:Int)(t:Nat):Obj:=⟨.type "code",none,.fields #[zs n a,zs n b,zs "/claim/cut.py" c,.int l 0,.int 0 0,.int 0 0,.int 0 0,.int 0 0,.ref r,.bool dr,.int m 0,.ref s,.none,.none,.none,.none,.int x 0,.int y 0,zs "/claim/cut.py" t],#[]⟩
def zE(n:String)(i x a:Nat)(l ac fl:Int)(md:String)(m t:Nat):List Obj:=[zt #[],z0,zg n n (tp i),zc n n a l ac 0 0 fl (.ref x) 181 (.ref (x+1)) .none .none (.ref (x+2)) t (t+1),⟨.type "function",none,zf n n (tp i) .none .none (zs md m) none (.ref (x+3)) .none,#[]⟩]
def zD(n:String)(i x a:Nat)(l ac fl:Int)(v:Array aC)(md:String)(m t:Nat):List Obj:=[zt #[],z0,zt v,zt #[],zg n n (tp i),zc n n a l ac 0 0 fl (.ref x) 181 (.ref (x+1)) (.ref (x+2)) (.ref (x+3)) (.ref (x+4)) t (t+1),⟨.type "function",none,zf n n (tp i) .none .none (zs md m) none (.ref (x+5)) .none,#[]⟩]
def zC(P:Rx)(n:String)(a t l:Nat):List Obj:=[zp,⟨(.type "dict"),none,(.dict #[ze P "__module__" (t+5) (zs "tiewebs.errors" 187),ze P "__qualname__" (t+7) (zs n (t+6)),ze P "__firstlineno__" (t+9) (.int l (t+8)),ze P "__static_attributes__" (t+10) (.ref (a+6))] 4),#[]⟩,zt #[],z0,zk n t (t+1) (t+2) l (a+2) 181 (a+3) (t+3) l (t+4),zr (a+4) (a+1) (zs "tiewebs.errors" 187),zt #[],⟨(.type "dict"),none,(.dict #[ze P "__module__" (t+5) (zs "tiewebs.errors" 187),ze P "__firstlineno__" (t+9) (.int l (t+8)),ze P "__static_attributes__" (t+10) (.ref (a+6)),ze P "__doc__" (t+11) .none] 2),#[]⟩,⟨(.type "type"),none,(.cls ⟨(j2 n),[(.ref 24)],[(.ref (a+8)),(.ref 24),(.type "ValueError"),(.type "Exception"),(.type "BaseException"),(.type "object")],(a+7),(j2 n),c_,[],[],dr,none,dr⟩),#[ar (.ref (a-1)),none,ar (zs n (t-2)),ar (zs n (t+6)),ar (.builtin "ValueError.__new__"),ar (.bool c_)]⟩,zu (a+8),zi (a+8),zt #[(.ref 24)]]
def ml:String:="law_tiewebs_k91_texts_that_write_none"
def L1(P:Rx):List Obj:=[boot_o_0 P,boot_o_1 P,boot_o_2 P,⟨(.type "dict"),none,(.dict #[ze P "__name__" 165 (zs ml 515),ze P "__doc__" 166 .none,ze P "__package__" 167 .none,ze P "__loader__" 168 (.builtin "__main__.__loader__#opaque"),ze P "__spec__" 169 .none,ze P "__annotations__" 170 (.ref 6),ze P "__builtins__" 171 (.ref 4),ze P "__file__" 173 (zs "/claim/cut.py" 172),ze P "__cached__" 174 .none,ze P "WebError" 206 (.ref 24),ze P "NoWeb" 222 (.ref 37),ze P "NoPlace" 238 (.ref 49),ze P "NoPlaces" 254 (.ref 61),ze P "NoMap" 270 (.ref 73),ze P "NoSharing" 286 (.ref 85),ze P "NoRoot" 302 (.ref 97),ze P "NoNumber" 318 (.ref 109),ze P "NotJoined" 334 (.ref 121),ze P "NoTie" 350 (.ref 133),ze P "NoText" 366 (.ref 145),ze P "NoLine" 382 (.ref 157),ze P "NoDeed" 398 (.ref 169),ze P "TooGreat" 425 (.ref 188),ze P "MOST_PLACES" 429 (.int 14 428),ze P "is_whole" 436 (.ref 197),ze P "is_pair" 443 (.ref 204),ze P "is_place" 451 (.ref 211),ze P "is_tie" 461 (.ref 218),ze P "is_rising" 467 (.ref 223),ze P "is_web" 473 (.ref 228),ze P "need_web" 480 (.ref 235),ze P "FIGURES" 484 (zs "0123456789" 483),ze P "MOST_FIGURES" 486 (.int 2 485),ze P "read_number" 492 (.ref 240),ze P "read_tie" 502 (.ref 247),ze P "web_text" 508 (.ref 252),ze P "read_web" 514 (.ref 257),ze P "_law_cell_at" 524 (.ref 264),ze P "_law_state" 533 (.ref 271),ze P "_law_take" 543 (.ref 278),ze P "_law_pairs" 549 (.ref 283),ze P "_law_mixed_row" 559 (.ref 290),ze P "_law_web" 565 (.ref 295),ze P "_law_great_web" 577 (.ref 302),ze P "_law_whole" 584 (.ref 309),ze P "_law_is_web" 592 (.ref 316),ze P "_law_same" 598 (.ref 321),ze P "_law_refused" 604 (.ref 326),ze P "_law_number" 611 (.ref 333),ze P "_law_web_in" 617 (.ref 338),ze P "_law_bent" 636 (.ref 345),ze P "law" 642 (.ref 350)] 52),#[]⟩,boot_o_4 P,boot_o_5 P,boot_o_6 P,boot_o_7 P,boot_o_8 P,boot_o_9 P,boot_o_10 P,zt #[],⟨.none,none,(.fields #[(.int 2 0),(.int 0 0),(.ref 20),(.int 4 0),(.int 0 0),(.ref 33),(.int 6 0),(.int 0 0),(.ref 45),(.int 8 0),(.int 0 0),(.ref 57),(.int 10 0),(.int 0 0),(.ref 69),(.int 12 0),(.int 0 0),(.ref 81),(.int 14 0),(.int 0 0),(.ref 93),(.int 16 0),(.int 0 0),(.ref 105),(.int 18 0),(.int 0 0),(.ref 117),(.int 20 0),(.int 0 0),(.ref 129),(.int 22 0),(.int 0 0),(.ref 141),(.int 24 0),(.int 0 0),(.ref 153),(.int 26 0),(.int 0 0),(.ref 165),(.int 28 0),(.int 0 0),(.ref 177),(.int 35 0),(.int 0 0),(.ref 196),(.int 37 0),(.int 0 0),(.ref 203),(.int 39 0),(.int 0 0),(.ref 210),(.int 41 0),(.int 0 0),(.ref 217),(.int 46 0),(.int 0 0),(.ref 222),(.int 48 0),(.int 0 0),(.ref 227),(.int 55 0),(.int 0 0),(.ref 234),(.int 61 0),(.int 0 0),(.ref 239),(.int 67 0),(.int 0 0),(.ref 246),(.int 70 0),(.int 0 0),(.ref 251),(.int 74 0),(.int 0 0),(.ref 256),(.int 83 0),(.int 0 0),(.ref 263),(.int 87 0),(.int 0 0),(.ref 270),(.int 92 0),(.int 0 0),(.ref 277),(.int 101 0),(.int 0 0),(.ref 282),(.int 106 0),(.int 0 0),(.ref 289),(.int 112 0),(.int 0 0),(.ref 294),(.int 126 0),(.int 0 0),(.ref 301),(.int 134 0),(.int 0 0),(.ref 308),(.int 136 0),(.int 0 0),(.ref 315),(.int 147 0),(.int 0 0),(.ref 320),(.int 155 0),(.int 0 0),(.ref 325),(.int 170 0),(.int 0 0),(.ref 332),(.int 174 0),(.int 0 0),(.ref 337),(.int 186 0),(.int 0 0),(.ref 344),(.int 199 0),(.int 0 0),(.ref 349)]),#[]⟩,⟨(.type "code"),none,(.fields #[(zs "<module>" 182),(zs "<module>" 183),(zs "/claim/cut.py" 184),(.int 1 0),(.int 0 0),(.int 0 0),(.int 0 0),(.int 0 0),(.ref 11),(.bool dr),(.int 181 0),(.ref 12),.none,.none,.none,.none,(.int 185 0),(.int 1 0),(zs "/claim/cut.py" 186)]),#[]⟩,zr 13 3 (zs "__main__" 164),zt #[(.type "ValueError")],zp,⟨(.type "dict"),none,(.dict #[ze P "__module__" 196 (zs "tiewebs.errors" 187),ze P "__qualname__" 198 (zs "WebError" 197),ze P "__firstlineno__" 200 (.int 2 199),ze P "__static_attributes__" 201 (.ref 22)] 4),#[]⟩,zt #[],z0,zk "WebError" 191 192 193 2 18 181 19 194 2 195,zr 20 17 (zs "tiewebs.errors" 187),zt #[],⟨(.type "dict"),none,(.dict #[ze P "__module__" 196 (zs "tiewebs.errors" 187),ze P "__firstlineno__" 200 (.int 2 199),ze P "__static_attributes__" 201 (.ref 22),ze P "__weakref__" 203 (.ref 25),ze P "__doc__" 204 .none] 3),#[]⟩,⟨(.type "type"),none,(.cls ⟨(j2 "WebError"),[(.type "ValueError")],[(.ref 24),(.type "ValueError"),(.type "Exception"),(.type "BaseException"),(.type "object")],23,(j2 "WebError"),c_,[],[(.ref 37),(.ref 49),(.ref 61),(.ref 73),(.ref 85),(.ref 97),(.ref 109),(.ref 121),(.ref 133),(.ref 145),(.ref 157),(.ref 169),(.ref 188)],dr,none,dr⟩),#[ar (.ref 15),none,ar (zs "WebError" 189),ar (zs "WebError" 197),ar (.builtin "ValueError.__new__"),ar (.bool c_)]⟩,⟨(.type "getset_descriptor"),none,(.fields #[(zs "__weakref__" 202),(.ref 24),(.builtin "ExceptionGroup.__weakref__"),.none]),#[]⟩,zu 24,zi 24,zt #[(.ref 24)]]++zC P "NoWeb" 29 209 4++zC P "NoPlace" 41 225 6++zC P "NoPlaces" 53 241 8++zC P "NoMap" 65 257 10++zC P "NoSharing" 77 273 12++zC P "NoRoot" 89 289 14++zC P "NoNumber" 101 305 16++zC P "NotJoined" 113 321 18++zC P "NoTie" 125 337 20++zC P "NoText" 137 353 22++zC P "NoLine" 149 369 24++zC P "NoDeed" 161 385 26++[zp,⟨(.type "dict"),none,(.dict #[ze P "__module__" 406 (zs "tiewebs.errors" 187),ze P "__qualname__" 408 (zs "TooGreat" 407),ze P "__firstlineno__" 410 (.int 28 409),ze P "__init__" 419 (.ref 185),ze P "__static_attributes__" 422 (.ref 186)] 5),#[]⟩,zt #[],⟨.none,none,(.fields #[(.int 30 0),(.int 4 0),(.ref 184)]),#[]⟩,zk "TooGreat" 401 402 403 28 175 181 176 404 28 405,zr 177 174 (zs "tiewebs.errors" 187),zt #[],z0,zt #[(zs "self" 414),(zs "many" 415),(zs "most" 416)],zt #[],zg "__init__" "TooGreat.__init__" (iC (tp 14)),zc "__init__" "TooGreat.__init__" 411 30 3 0 0 3 (.ref 179) 181 (.ref 180) (.ref 181) (.ref 182) (.ref 183) 417 418,⟨.type "function",none,(zf "__init__" "TooGreat.__init__" (iC (tp 14)) .none .none (zs "tiewebs.errors" 187) none (.ref 184) .none),#[]⟩,zt #[(zs "many" 420),(zs "most" 421)],⟨(.type "dict"),none,(.dict #[ze P "__module__" 406 (zs "tiewebs.errors" 187),ze P "__firstlineno__" 410 (.int 28 409),ze P "__init__" 419 (.ref 185),ze P "__static_attributes__" 422 (.ref 186),ze P "__doc__" 423 .none] 2),#[]⟩,⟨(.type "type"),none,(.cls ⟨(j2 "TooGreat"),[(.ref 24)],[(.ref 188),(.ref 24),(.type "ValueError"),(.type "Exception"),(.type "BaseException"),(.type "object")],187,(j2 "TooGreat"),c_,[],[],dr,none,dr⟩),#[ar (.ref 172),none,ar (zs "TooGreat" 399),ar (zs "TooGreat" 407),ar (.builtin "ValueError.__new__"),ar (.bool c_)]⟩,zu 188,zi 188]++zD "is_whole" 17 191 430 35 1 3 #[zs "thing" 433] "tiewebs.webs" 426 434++zD "is_pair" 18 198 437 37 1 3 #[zs "thing" 440] "tiewebs.webs" 426 441++zD "is_place" 19 205 444 39 2 3 #[zs "many" 447,zs "thing" 448] "tiewebs.webs" 426 449++zD "is_tie" 20 212 452 41 2 3 #[zs "many" 455,zs "thing" 456,zs "low" 457,zs "high" 458] "tiewebs.webs" 426 459++zE "is_rising" 21 219 462 46 1 3 "tiewebs.webs" 426 465++zE "is_web" 22 224 468 48 1 3 "tiewebs.webs" 426 471++zD "need_web" 23 229 474 55 1 3 #[zs "thing" 477] "tiewebs.webs" 426 478++zE "read_number" 27 236 487 61 1 3 "tiewebs.texts" 481 490++zD "read_tie" 28 241 493 67 1 3 #[zs "word" 496,zs "low" 497,zs "sign" 498,zs "high" 499] "tiewebs.texts" 481 500++zE "web_text" 29 248 503 70 1 3 "tiewebs.texts" 481 506++zE "read_web" 30 253 509 74 1 3 "tiewebs.texts" 481 512++zD "_law_cell_at" 32 258 517 83 2 3 #[zs "_law_script" 520,zs "_law_k" 521] ml 515 522++zD "_law_state" 33 265 525 87 2 3 #[zs "_law_script" 528,zs "_law_k" 529,zs "_law_cell" 530] ml 515 531++zD "_law_take" 34 272 534 92 2 3 #[zs "_law_state_here" 537,zs "_law_many" 538,zs "_law_found" 539,zs "_law_stirred" 540] ml 515 541++zE "_law_pairs" 35 279 544 101 1 3 ml 515 547++zD "_law_mixed_row" 36 284 550 106 2 3 #[zs "_law_state_here" 553,zs "_law_things" 554,zs "_law_left" 555,zs "_law_found" 556] ml 515 557++zE "_law_web" 37 291 560 112 2 3 ml 515 563++zD "_law_great_web" 38 296 566 126 1 3 #[zs "_law_state_here" 569,zs "_law_many" 570,zs "_law_ties" 571,zs "_law_turn" 572,zs "_law_one" 573,zs "_law_other" 574] ml 515 575++zD "_law_whole" 39 303 578 134 1 3 #[zs "_law_thing" 581] ml 515 582++zD "_law_is_web" 40 310 585 136 1 3 #[zs "_law_thing" 588,zs "_law_tie" 589] ml 515 590++zE "_law_same" 41 317 593 147 2 3 ml 515 596++zE "_law_refused" 42 322 599 155 1 3 ml 515 602++zD "_law_number" 43 327 605 170 1 3 #[zs "_law_word" 608] ml 515 609++zE "_law_web_in" 44 334 612 174 1 3 ml 515 615++zD "_law_bent" 45 339 618 186 2 3 #[zs "_law_state_here" 621,zs "_law_text" 622,zs "_law_at" 623,zs "_law_signs" 624,zs "_law_sign" 625,zs "_law_left" 626,zs "_law_right" 627,zs "_law_words" 628,zs "_law_one" 629,zs "_law_other" 630,zs "_law_word" 631,zs "_law_some" 632,zs "_law_rest" 633] ml 515 634++zE "law" 46 346 637 199 1 3 ml 515 640
def Lb(P:Rx):List Obj:=[boot_o_0 P,boot_o_1 P,boot_o_2 P,boot_o_3 P,boot_o_4 P,boot_o_5 P,boot_o_6 P,boot_o_7 P,boot_o_8 P,boot_o_9 P,boot_o_10 P,zt #[],z0,⟨(.type "code"),none,(.fields #[(zs "<module>" 182),(zs "<module>" 183),(zs "/claim/cut.py" 184),(.int 1 0),(.int 0 0),(.int 0 0),(.int 0 0),(.int 0 0),(.ref 11),(.bool dr),(.int 181 0),(.ref 12),.none,.none,.none,.none,(.int 185 0),(.int 1 0),(zs "/claim/cut.py" 186)]),#[]⟩,zr 13 3 (zs "__main__" 164)]
def as0:List Addr:=[2,3,15,22,23,24,25,28,35,36,37,40,47,48,49,52,59,60,61,64,71,72,73,76,83,84,85,88,95,96,97,100,107,108,109,112,119,120,121,124,131,132,133,136,143,144,145,148,155,156,157,160,167,168,169,172,179,181,182,184,185,186,187,188,191,193,194,196,197,198,200,201,203,204,205,207,208,210,211,212,214,215,217,218,219,222,223,224,227,228,229,231,232,234,235,236,239,240,241,243,244,246,247,248,251,252,253,256,257,258,260,261,263,264,265,267,268,270,271,272,274,275,277,278,279,282,283,284,286,287,289,290,291,294,295,296,298,299,301,302,303,305,306,308,309,310,312,313,315,316,317,320,321,322,325,326,327,329,330,332,333,334,337,338,339,341,342,344,345,346,349,350]
def ts0:List Addr:=[347]
def vq:Program:={PySem.Challenge.pw_tiewebs_k91_texts_that_write_none with main:={PySem.Challenge.pw_tiewebs_k91_texts_that_write_none.main with body:=[tp 1,tp 2,tp 3,tp 4,tp 5,tp 6,tp 7,tp 8,tp 9,tp 10,tp 11,tp 12,tp 13,tp 14,tp 16,tp 17,tp 18,tp 19,tp 20,tp 21,tp 22,tp 23,tp 25,tp 26,tp 27,tp 28,tp 29,tp 30,tp 32,tp 33,tp 34,tp 35,tp 36,tp 37,tp 38,tp 39,tp 40,tp 41,tp 42,tp 43,tp 44,tp 45,tp 46]}}
def alt:Bool->List Obj->List Obj
 |_,[]=>[]
 |true,a::r=>a::alt dr r
 |false,_::r=>alt c_ r
def toT:Nat->List Obj->BT
 |0,_=>.nil
 |_+1,[]=>.nil
 |f+1,o::r=>.node o (toT f (alt c_ r)) (toT f (alt dr r))
def pick:Nat->List b_->List Obj->dt
 |i,as,o::os=>match as with
  |a::r=>if Nat.beq i a then (a,o)::pick (i+1) r os else pick (i+1) (a::r) os
  |[]=>[]
 |_,_,[]=>[]
def K0(P:Rx):W.Frag:=pick 0 as0 (L1 P)
theorem as0_eq:∀P,as0=(K0 P).map (·.1):=λ_=>by kernel_rfl
abbrev pw:Program:=PySem.Challenge.pw_tiewebs_k91_texts_that_write_none
abbrev Xt0(s:a_):Bool:=xlAt vq [] s && recOk (RowW.records (OpenRow.toRowW (OpenLaw.row PySem.Challenge.rw_tiewebs_k91_texts_that_write_none))) s
def lf:Life:={}
def en:Env:={scope:=pw.main.scope,locals:=mainNs,globals:=mainNs,cells:=[],code:=(.ref 13),frame:=ar 14}
abbrev cE:Code:=.body (RF pw) en
abbrev Bf:List Frame:=[topFrame ⟨0,0,0,0⟩]
abbrev S0(w:er)(os:R1):Shared:=⟨LI w.params,E_ [],boot_drawn,boot_toks,os⟩
abbrev Sb(w:er)(os:R1):SharedT:=⟨toT 12 (Lb w.params),15,lf,E_ [],⟨0,0,0,0⟩,187,os⟩
abbrev Sm(w:er)(os:R1):SharedT:=⟨toT 12 (L1 w.params),351,lf,E_ [],⟨0,0,0,0⟩,643,os⟩
abbrev Sf(w:er)(os:R1):Shared:=⟨⟨E_ (L1 w.params),lf⟩,E_ [],⟨0,0,0,0⟩,643,os⟩
theorem LP:∀w,(λos=>topGo RG pw w 11 (ar (.ref 6)) 12 (S0 w os) (topStub pw))=λos=>ar ((Sb w os).abs,⟨denote RG cE,cE,⟨0,0,0,0⟩,Bf⟩):=λw=>by kernel_rfl
theorem Hb:∀w,(λos=>segRun RG pw w 11 (ar (.ref 6)) 1 1 (Sb w os).abs (blockOf (RF pw) en cE ⟨0,0,0,0⟩ Bf))=λos=>ar (.next,(Sb w os).abs,cE,⟨0,0,0,0⟩):=λw=>by kernel_rfl
theorem JV:∀w,(λos=>segRunT RG pw w 11 (ar (.ref 6)) 1 3808 (Sb w os) (piecesOf (RF pw) en cE ⟨0,0,0,0⟩ Bf))=λos=>ar (.next,Sm w os,cE,⟨199,0,215,15⟩):=λw=>by kernel_rfl
theorem LQ:∀w,(λos=>topRun RG pw w 11 (ar (.ref 6)) 2 (Sm w os).abs ⟨doneF .next,cE,⟨199,0,215,15⟩,Bf⟩)=λos=>ar (Sf w os):=λw=>by kernel_rfl
theorem LR(w:er)(os:R1):topRun RG pw w 11 (ar (.ref 6)) (12+(1+(3808+2))) (S0 w os) (topStub pw)=ar (Sf w os):=
 go_top (NX (LP w) os) (piece_block (NX (Hb w) os) (by have:=piece_app (rest:=[]) (segRun_of (NX (JV w) os)) (piece_nil (NX (LQ w) os));rw[Om]at this;exact this))
theorem JW:∀w:er,((LI w.params).isNs f_ && (E_ []:Array RT).size==0,(LI w.params).objs.size,(LI w.params).nsMap f_ "__annotations__")=(c_,11,(ar (.ref 6))):=λw=>by kernel_rfl
theorem JX:∀w os,(staticsOk (kS pw.main.body) (LI w.params) (Sf w os).heap && namesBound pw (Sf w os).heap && gensDone (Sf w os) && laidKept (LI w.params) (Sf w os).heap)=true:=λw os=>by kernel_rfl
theorem LS:∀w os,(z_ vq [] (kS pw.main.body) Xt0 c_ (Sf w os)).1=(A2 vq []).1:=λw os=>by kernel_rfl
theorem LU:∀w os,(z_ vq [] (kS pw.main.body) Xt0 c_ (Sf w os)).2.1=(A2 vq []).2.1:=λw os=>by kernel_rfl
theorem LV:∀w os,(z_ vq [] (kS pw.main.body) Xt0 c_ (Sf w os)).2.2.1=(A2 vq []).2.2.1:=λw os=>by kernel_rfl
theorem LW:∀w os,(z_ vq [] (kS pw.main.body) Xt0 c_ (Sf w os)).2.2.2.1=(A2 vq []).2.2.2.1:=λw os=>by kernel_rfl
theorem LX:∀w os,(z_ vq [] (kS pw.main.body) Xt0 c_ (Sf w os)).2.2.2.2.1=(A2 vq []).2.2.2.2.1:=λw os=>by kernel_rfl
theorem LY:∀w os,(z_ vq [] (kS pw.main.body) Xt0 c_ (Sf w os)).2.2.2.2.2.1=(A2 vq []).2.2.2.2.2.1:=λw os=>by kernel_rfl
theorem LZ:∀w os,(z_ vq [] (kS pw.main.body) Xt0 c_ (Sf w os)).2.2.2.2.2.2.1=(A2 vq []).2.2.2.2.2.2.1:=λw os=>by kernel_rfl
theorem L3:∀w os,(z_ vq [] (kS pw.main.body) Xt0 c_ (Sf w os)).2.2.2.2.2.2.2.1=(A2 vq []).2.2.2.2.2.2.2.1:=λw os=>by kernel_rfl
theorem L4:∀w os,(z_ vq [] (kS pw.main.body) Xt0 c_ (Sf w os)).2.2.2.2.2.2.2.2=(A2 vq []).2.2.2.2.2.2.2.2:=λw os=>by kernel_rfl
theorem JY:∀w os,TC (RU K0 as0 as0_eq ts0) (Sf w os)=TF (RU K0 as0 as0_eq ts0) w:=λw os=>by kernel_rfl
theorem JZ(w:er)(os:R1):z_ vq [] (kS pw.main.body) Xt0 c_ (Sf w os)=A2 vq []:=Qf (LS w os) (Qf (LU w os) (Qf (LV w os) (Qf (LW w os) (Qf (LX w os) (Qf (LY w os) (Qf (LZ w os) (Qf (L3 w os) (L4 w os))))))))
theorem left0:LeftO (OpenLaw.row PySem.Challenge.rw_tiewebs_k91_texts_that_write_none).prog vq [] Xt0 (TC (RU K0 as0 as0_eq ts0)) (TF (RU K0 as0 as0_eq ts0)) 7740:=
 LeftO.of_pieces (p:=pw) (H₀:=LI) (H₁:=λP=>⟨E_ (L1 P),lf⟩) (gs₀:=E_ []) (gs₁:=E_ []) (d₀:=boot_drawn) (d₁:=⟨0,0,0,0⟩) (k₀:=boot_toks) (k₁:=643) (M:=12+(1+(3808+2))) (boot_open (p:=pw) (by kernel_rfl) (by decide) (λs=>by kernel_rfl)) JW LR (by decide) λw=>funext λos=>Qf (JX w os) (Qf (JZ w os) (JY w os))
end KH
section
namespace L2
open PySem PySem.Spec PyProof.Rows
abbrev Key:=Sum Int Str
def Gu:Key->aC->Bool
 | .inl k,v=>Value.isInt k v
 | .inr x,v=>Value.isStrOf x v
def L5(w:er):Key->Int
 | .inl k=>hashInt k
 | .inr x=>hashStr w x
theorem cL:∀{k:Key} {v:aC},Gu k v=c_->(∃i t,k=R3 i/\v=oi i t)\/(∃x t,k=R4 x/\v=k8 x t)
 | .inl i,v,h=>by
  obtain⟨t,e⟩:=Value.isInt_shape (k:=i) (v:=v) h;exact .inl ⟨i,t,rfl,e⟩
 | .inr x,v,h=>by
  obtain⟨t,e⟩:=Value.isStrOf_shape (x:=x) (v:=v) h;exact .inr ⟨x,t,rfl,e⟩
theorem Hd(a b:Int):decide ((R3 a:Key)=R3 b)=(a==b):=by
 by_cases e:a=b
 ·subst e;simp
 ·have h:¬ (R3 a:Key)=R3 b:=λq=>e (Sum.inl.inj q);rw[NQ h];exact(beq_eq_false_iff_ne.mpr e).symm
theorem He(a b:Str):decide ((R4 a:Key)=R4 b)=decide (a=b):=by
 by_cases e:a=b
 ·subst e;simp
 ·have h:¬ (R4 a:Key)=R4 b:=λq=>e (Sum.inr.inj q);rw[NQ h,NQ e]
theorem Hf(a:Int)(b:Str):decide ((R3 a:Key)=R4 b)=false:=NQ (λq=>nomatch q)
theorem Hg(a:Str)(b:Int):decide ((R4 a:Key)=R3 b)=false:=NQ (λq=>nomatch q)
def yc(prog:eb)(w:er):PySem.KeyKind prog w Key where
 is:=Gu
 hash:=L5 w
 inj:=λv a b ha hb=>by
  rcases cL ha with⟨i,t,rfl,rfl⟩|⟨x,t,rfl,rfl⟩
  ·rcases cL hb with⟨j,u,rfl,e⟩|⟨y,u,rfl,e⟩
   ·injection e with e1 _;rw[e1]
   ·exact nomatch e
  ·rcases cL hb with⟨j,u,rfl,e⟩|⟨y,u,rfl,e⟩
   ·exact nomatch e
   ·injection e with e1 _;rw[e1]
 byValue:=λk v h=>by rcases cL h with⟨i,t,rfl,rfl⟩|⟨x,t,rfl,rfl⟩<;>rfl
 pyHash:=λhv h=>by
  rcases cL hv with⟨i,t,rfl,rfl⟩|⟨x,t,rfl,rfl⟩
  ·exact wpAny_pyHash_int h
  ·exact wpAny_pyHash_str h
 eqBool:=λhu hv h=>by
  rcases cL hu with⟨i,t,rfl,rfl⟩|⟨x,t,rfl,rfl⟩
  ·rcases cL hv with⟨j,u,rfl,rfl⟩|⟨y,u,rfl,rfl⟩
   ·rw[Hd]at h;exact Rm h
   ·rw[Hf]at h;exact SeqAt.EqAt.int_str i t y u _ _ _ _ h
  ·rcases cL hv with⟨j,u,rfl,rfl⟩|⟨y,u,rfl,rfl⟩
   ·rw[Hg]at h;exact SeqAt.EqAt.str_int x t j u _ _ _ _ h
   ·rw[He]at h;exact wpAny_eqBool_str h
 «strs»:=λk x t v h=>by
  rcases cL h with⟨i,u,rfl,e⟩|⟨y,u,rfl,e⟩
  ·exact nomatch e
  ·injection e with e1 _;subst e1;cases v<;>rfl
inductive V where
 |non|bl (b:Bool)|int (i:Int)|str (x:Str)|byt (b:Array UInt8)|flt (b:UInt64)|ref (a:b_)|ty (n:String)
 deriving DecidableEq
def RelV:V->aC->Prop
 | .non,u=>u=hY
 | .bl b,u=>u=u_ b
 | .int i,u=>∃t,u=oi i t
 | .str x,u=>∃t,u=k8 x t
 | .byt b,u=>∃t,u=Value.bytes b t
 | .flt b,u=>∃t,u=RV b t
 | .ref a,u=>u=ee a
 | .ty n,u=>u=y7 n
abbrev bj:List V->List aC->Prop:=Paired RelV
theorem bj.length{xs:List V}{us:List aC}(r:bj xs us):xs.length=us.length:=Paired.length r
theorem bj.get:∀{xs:List V} {us:List aC} {i:Nat} {x:V},bj xs us->xs[i]? =ar x->∃u,us[i]? =ar u/\RelV x u
 |_,_,_,_,.nil,e=>by simp at e
 |_,_,0,_,.cons r _,e=>by simp at e;subst e;exact⟨_,rfl,r⟩
 |_,_,i+1,x,.cons _ t,e=>by
  obtain⟨u,Y,Z⟩:=bj.get (i:=i) (x:=x) t (by simpa using e);exact⟨u,by simpa using Y,Z⟩
theorem bj.set{x:V}{u:aC}(r:RelV x u):∀{xs:List V} {us:List aC} (i:Nat),bj xs us->bj (xs.set i x) (us.set i u)
 |_,_,_,.nil=>.nil
 |_,_,0,.cons _ t=>.cons r t
 |_,_,i+1,.cons q t=>.cons q (bj.set r i t)
theorem bj.append:∀{xs ys:List V} {us ws:List aC},bj xs us->bj ys ws->bj (xs++ys) (us++ws)
 |_,_,_,_,.nil,s=>s
 |_,_,_,_,.cons r t,s=>.cons r (bj.append t s)
theorem bj.take:∀{xs:List V} {us:List aC} (n:Nat),bj xs us->bj (xs.take n) (us.take n)
 |_,_,0,_=>.nil
 |_,_,_+1,.nil=>.nil
 |_,_,n+1,.cons r t=>.cons r (bj.take n t)
theorem bj.drop:∀{xs:List V} {us:List aC} (n:Nat),bj xs us->bj (xs.drop n) (us.drop n)
 |_,_,0,r=>r
 |_,_,_+1,.nil=>.nil
 |_,_,n+1,.cons _ t=>bj.drop n t
def uT:Option V->Option aC->Prop
 |some v,ar u=>RelV v u
 |none,none=>True
 |_,_=>False
def KV{κ:Type}:List (κ×V)->List (κ×aC)->Prop:=Paired λ(p:κ×V) (q:κ×aC)=>p.1=q.1/\RelV p.2 q.2
def kV:Key->V
 | .inl i=>.int i
 | .inr x=>.str x
inductive HO where
 |lst (xs:List V)
 |tup (xs:List V)
 |dK (kvs:List (Key×V))|dT (kvs:List (List Key×V))
 |set (S:Int->Bool) (n:Nat)
 |ins (C dx:b_) (fs:List (Str×V))
 |own (x:b_)
 |xd (fs:List (Str×V))
 |met (f x:b_)
 |rng (lo hi:Int)
 |frz (o:Obj) (u:HO)
 |tbl (ps:Array aC)
 |ext (φ:fg->Prop)
abbrev Hp:=b_->Option HO
def upd(H:Hp)(a:b_)(o:HO):Hp:=λb=>if b=a then ar o else H b
theorem bg{H:Hp}{a:b_}{o:HO}:upd H a o a=ar o:=by unfold upd;rw[if_pos rfl]
theorem aM{H:Hp}{a b:b_}{o:HO}(h:b≠a):upd H a o b=H b:=by unfold upd;rw[if_neg h]
theorem aN{H:Hp}{a b:b_}{o:HO}(h:H a=ar o)(h':H b=none):a≠b:=by intro e;subst e;rw[h]at h';cases h'
section
variable (P:eb)(w:er)
def bh(H:Hp)(h:fg)(a:b_):HO->Prop
 | .lst xs=>xs.length<=sizeLine/\∃(its:List aC) (n:Nat),bj xs its/\h.get? a=ar {cls:=.type "list",data:=.seq its.toArray n}
 | .tup xs=>(xs.length<=sizeLine/\∃o,h.get? a=ar o/\o.dict=none)/\∃its:List aC,bj xs its/\Tg h a its.toArray
 | .dK kvs=>kvs.length<=sizeLine/\(a==SU)=dr/\∃vs,KV kvs vs/\h.DictOf (yc P w) a vs
 | .dT kvs=>kvs.length<=sizeLine/\(a==SU)=dr/\∃xs:List (List Key×b_×aC),
   Paired (λ(p:List Key×V) (q:List Key×b_×aC)=>p.1=q.1/\H q.2.1=ar (.tup (p.1.map kV))/\RelV p.2 q.2.2) kvs xs/\
   ∃o es ep,h.get? a=ar o/\o.ExactDict/\o.data= .dict es ep/\es.toList=xs.map (entryOfKey (tupleKind (yc P w)))/\(xs.map (·.1)).Nodup
 | .set S n=>h.SetOf (n4 P w) a S n
 | .ins C dx fs=>H dx=ar (.own a)/\fs.length<=1000/\dx≠a/\h.get? a=ar (Th C dx)/\
   ∃mA,h.Ns1 dx mA/\(∀f,uT (fs.lookup f) (mA f))/\PySem.Within mA (fs.map (·.1))
 | .own _=>∃o,h.get? a=ar o
 | .xd fs=>∃mA,h.Ns1 a mA/\∀f,uT (fs.lookup f) (mA f)
 | .rng lo hi=>∃t u v,h.get? a=ar {cls:=.type "range",data:=.fields #[.int lo t,.int hi u,.int 1 v]}
 | .frz o u=>h.get? a=ar o/\bh H h a u
 | .tbl ps=>h.get? a=ar {cls:=.none,data:=.fields ps}
 | .met f x=>h.get? a=ar (SH (.ref f) (.ref x))
 | .ext φ=>φ h/\(∃o,h.get? a=ar o)/\∀h1 h2:fg,φ h1->(∀o,h1.get? a=ar o->h2.get? a=ar o)->φ h2
theorem mI{h:fg}{xs:List V}{items:Array aC}(z:xs.length<=sizeLine):xs.length<=sizeLine/\∃o,(h.push {cls:=.type "tuple",data:=.seq items}).get? h.objs.size=ar o/\o.dict=none:=⟨z,_,NA _ rfl,rfl⟩
def gh(H:Hp)(h:fg):Prop:=∀a o,H a=ar o->bh P w H h a o
end
section
variable {P:eb}{w:er}{H H':Hp}{h h':fg}{a:b_}{o:HO}
theorem bh.lt(x:bh P w H h a o):a<h.objs.size:=by
 cases o with
 |lst xs=>obtain⟨_,_,_,_,e⟩:=x;exact Ny e
 |tup xs=>obtain⟨_,_,_,p⟩:=x;exact p.lt
 |dK kvs=>obtain⟨_,_,_,_,o,_,_,e,_⟩:=x;exact Ny e
 |dT kvs=>obtain⟨_,_,_,_,o,_,_,e,_⟩:=x;exact Ny e
 |set S n=>obtain⟨o,_,_,_,e,_⟩:=x;exact Ny e
 |ins C dx fs=>obtain⟨_,_,_,e,_⟩:=x;exact Ny e
 |own y=>obtain⟨_,e⟩:=x;exact Ny e
 |xd fs=>obtain⟨_,⟨_,_,_,e,_⟩,_⟩:=x;exact Ny e
 |rng lo hi=>obtain⟨_,_,_,e⟩:=x;exact Ny e
 |frz ob u=>obtain⟨e,_⟩:=x;exact Ny e
 |tbl ps=>exact Ny (show h.get? a=ar _ from x)
 |met f y=>exact Ny (show h.get? a=ar _ from x)
 |ext φ=>obtain⟨_,⟨_,e⟩,_⟩:=x;exact Ny e
theorem Paired.mapP{Z Y:Type}{F G:Z->Y->Prop}:∀{l₁:List Z} {l₂:List Y},Paired F l₁ l₂->(∀a b,F a b->G a b)->Paired G l₁ l₂
 |_,_,.nil,_=>.nil
 |_,_,.cons r t,f=>.cons (f _ _ r) (Paired.mapP t f)
theorem bh.stay(x:bh P w H h a o)(k:∀b u,(b=a\/H b=ar (.own a))->h.get? b=ar u->h'.get? b=ar u)
  (R:∀b,H b=ar (.own a)->H' b=ar (.own a)) (X:∀b xs,H b=ar (.tup xs)->H' b=ar (.tup xs)):bh P w H' h' a o:=by
 induction o with
 |lst xs=>obtain⟨z,its,n,r,e⟩:=x;exact⟨z,its,n,r,k _ _ (.inl rfl) e⟩
 |tup xs=>obtain⟨⟨z,T,Q,U⟩,its,r,Z,e,c⟩:=x;exact⟨⟨z,T,k _ _ (.inl rfl) Q,U⟩,its,r,Z,k _ _ (.inl rfl) e,c⟩
 |dK kvs=>obtain⟨z,y,vs,r,Z,es,ep,e,c⟩:=x;exact⟨z,y,vs,r,Z,es,ep,k _ _ (.inl rfl) e,c⟩
 |dT kvs=>
  obtain⟨z,y,xs,r,Z,es,ep,e,c⟩:=x;exact⟨z,y,xs,Paired.mapP r λp q z=>⟨z.1,X _ _ z.2.1,z.2.2⟩,Z,es,ep,k _ _ (.inl rfl) e,c⟩
 |set S n=>obtain⟨Z,es,ep,t,e,c⟩:=x;exact⟨Z,es,ep,t,k _ _ (.inl rfl) e,c⟩
 |ins C dx fs=>
  obtain⟨d,z,ne,e,Y,⟨od,es,ep,e2,c⟩,r⟩:=x;exact⟨R _ d,z,ne,k _ _ (.inl rfl) e,Y,⟨od,es,ep,k _ _ (.inr d) e2,c⟩,r⟩
 |own y=>obtain⟨Z,e⟩:=x;exact⟨Z,k _ _ (.inl rfl) e⟩
 |xd fs=>obtain⟨Y,⟨od,es,ep,e,c⟩,r⟩:=x;exact⟨Y,⟨od,es,ep,k _ _ (.inl rfl) e,c⟩,r⟩
 |rng lo hi=>obtain⟨t,u,v,e⟩:=x;exact⟨t,u,v,k _ _ (.inl rfl) e⟩
 |frz Z u ih=>obtain⟨e,q⟩:=x;exact⟨k _ _ (.inl rfl) e,ih q⟩
 |tbl ps=>
  have e:h.get? a=ar {cls:=.none,data:=.fields ps}:=x;show h'.get? a=ar {cls:=.none,data:=.fields ps};exact k a _ (.inl rfl) e
 |met f y=>
  have e:h.get? a=ar (SH (.ref f) (.ref y)):=x;show h'.get? a=ar (SH (.ref f) (.ref y));exact k a _ (.inl rfl) e
 |ext φ=>obtain⟨p,⟨o,e⟩,st⟩:=x;exact⟨st _ _ p λo q=>k _ _ (.inl rfl) q,⟨o,k _ _ (.inl rfl) e⟩,st⟩
theorem gh.lt(x:gh P w H h)(e:H a=ar o):a<h.objs.size:=(x a o e).lt
theorem gh.fresh(x:gh P w H h)(e:h.objs.size<=a):H a=none:=by
 cases q:H a with
 |none=>rfl
 |some u=>exact absurd (NK (x.lt q) e) (OV _)
theorem gh.kept(x:gh P w H h)(k:∀b u,h.get? b=ar u->h'.get? b=ar u):gh P w H h':=λa o e=>
 (x a o e).stay (λb u _ q=>k b u q) (λ_ q=>q) λ_ _ q=>q
theorem gh.laid(x:gh P w H h)(k:∀b u,h.get? b=ar u->h'.get? b=ar u)(X:h.objs.size<=a)(Z:bh P w (upd H a o) h' a o):gh P w (upd H a o) h':=λb u e=>by
 have Y:=x.fresh X;by_cases hb:b=a
 ·subst hb;rw[bg]at e;cases e;exact Z
 ·rw[aM hb]at e;exact(x b u e).stay (λc v _ q=>k c v q) (λc q=>by rw[aM (aN q Y)];exact q) λc xs q=>by rw[aM (aN q Y)];exact q
end
def Rd(H:Hp)(a:b_)(u:HO):Prop:=H a=ar u\/∃o,H a=ar (.frz o u)
theorem Rd.ok{P:eb}{w:er}{H:Hp}{h:fg}{a:b_}{u:HO}(r:Rd H a u)(x:gh P w H h):bh P w H h a u:=by
 rcases r with r|⟨o,r⟩
 ·exact x a u r
 ·obtain⟨_,q⟩:=x a _ r;exact q
def LA:Option HO->Prop
 |some (.lst _)=>True
 |some (.dK _)=>True
 |some (.dT _)=>True
 |some (.set _ _)=>True
 |some (.ins _ _ _)=>True
 |some (.ext _)=>True
 |_=>False
section
variable {P:eb}{w:er}{H:Hp}{h h':fg}{x e:b_}{o':HO}
theorem gh.write(Q:gh P w H h)(W:LA (H x))(S:e=x\/H e=ar (.own x))(k:∀b u,b≠e->h.get? b=ar u->h'.get? b=ar u)(U:∃u,h'.get? e=ar u)
  (T:bh P w (upd H x o') h' x o'):gh P w (upd H x o') h':=λb u q=>by
 have Z:∀c y,H c=ar (.own y)->c≠x:=λc y r z=>by subst z;rw[r]at W;exact W
 have Y:∀c xs,H c=ar (.tup xs)->c≠x:=λc xs r z=>by subst z;rw[r]at W;exact W
 by_cases hb:b=x
 ·subst hb;rw[bg]at q;cases q;exact T
 ·rw[aM hb]at q;by_cases hbe:b=e
  ·have R:H b=ar (.own x):=by
    rcases S with z|z
    ·exact absurd (hbe.trans z) hb
    ·rw[hbe];exact z
   rw[q]at R;cases R;obtain⟨v,O⟩:=U;exact⟨v,by rw[hbe];exact O⟩
  ·refine(Q b u q).stay (λc v X r=>k c v ?_ r) (λc r=>by rw[aM (Z c b r)];exact r) λc xs r=>by rw[aM (Y c xs r)];exact r
   rcases X with rfl|X
   ·exact hbe
   ·rintro rfl;rcases S with z|z
    ·exact Z c b X z
    ·rw[X]at z;cases z;exact hb rfl
end
structure Un(fs ex:List b_)(H H':Hp)(h h':fg):Prop where
 keep:∀b o,h.get? b=ar o->H b=none->b∉fs->b∉ex->h'.get? b=ar o
 slot:∀b o,h.get? b=ar o->H b=none->b∈fs->b∉ex->∃sl,h'.get? b=ar {o with slots:=sl}
 free:∀b o,h.get? b=ar o->H b=none->b∉ex->H' b=none
 there:∀b o,h.get? b=ar o->b∉ex->∃o',h'.get? b=ar o'
 tups:∀b xs,H b=ar (.tup xs)->H' b=ar (.tup xs)
 frzs:∀b o u,H b=ar (.frz o u)->H' b=ar (.frz o u)
 tbls:∀b ps,H b=ar (.tbl ps)->∃more,H' b=ar (.tbl (ps++more))
section
variable {fs fs' ex ex':List b_}{H H1 H2:Hp}{h h1 h2 h':fg}{a x e:b_}{o:HO}
theorem Un.any(u:Un fs ex H H1 h h1){b:b_}{Z:Obj}(q:h.get? b=ar Z)(n:H b=none)(Y:b∉ex):∃sl,h1.get? b=ar {Z with slots:=sl}:=by
 by_cases hb:b∈fs
 ·exact u.slot b Z q n hb Y
 ·exact⟨Z.slots,u.keep b Z q n hb Y⟩
theorem Un.kept(k:∀b u,h.get? b=ar u->h'.get? b=ar u):Un fs ex H H h h':=
 ⟨λb Z q _ _ _=>k b Z q,λb Z q _ _ _=>⟨Z.slots,k b Z q⟩,λ_ _ _ n _=>n,λb Z q _=>⟨Z,k b Z q⟩,λ_ _ q=>q,λ_ _ _ q=>q,λ_ Y q=>⟨#[],by rw[q];simp⟩⟩
theorem Un.refl:Un fs ex H H h h:=Un.kept λ_ _ q=>q
theorem Un.laid(k:∀b u,h.get? b=ar u->h'.get? b=ar u)(Y:h.objs.size<=a)(Z:H a=none):Un fs ex H (upd H a o) h h' where
 keep:=λb u q _ _ _=>k b u q
 slot:=λb u q _ _ _=>⟨u.slots,k b u q⟩
 free:=λb u q n _=>by rw[aM (NL (NK (Ny q) Y))];exact n
 there:=λb u q _=>⟨u,k b u q⟩
 tups:=λb xs q=>by rw[aM (aN q Z)];exact q
 frzs:=λb u xs q=>by rw[aM (aN q Z)];exact q
 tbls:=λb X q=>⟨#[],by rw[aM (aN q Z),q];simp⟩
theorem Un.write(Z:LA (H x))(U:e=x\/H e=ar (.own x))(k:∀b u,b≠e->h.get? b=ar u->h'.get? b=ar u)(Y:∃u,h'.get? e=ar u):Un fs ex H (upd H x o) h h':=by
 have W:∀b,H b=none->b≠x:=λb n z=>by subst z;rw[n]at Z;exact Z
 have X:∀b,H b=none->b≠e:=λb n z=>by
  subst z;rcases U with r|r
  ·exact W b n r
  ·rw[n]at r;cases r
 have hm:∀b u,H b=ar u->¬ LA (ar u)->b≠x:=λb u q nm z=>by subst z;rw[q]at Z;exact nm Z
 refine⟨λb u q n _ _=>k b u (X b n) q,λb u q n _ _=>⟨u.slots,k b u (X b n) q⟩,λb u q n _=>by rw[aM (W b n)];exact n,λb u q _=>?_,
  λb xs q=>by rw[aM (hm b _ q λz=>z)];exact q,λb u xs q=>by rw[aM (hm b _ q λz=>z)];exact q,λb T q=>⟨#[],by rw[aM (hm b _ q λz=>z),q];simp⟩⟩
 by_cases hbe:b=e
 ·subst hbe;exact Y
 ·exact⟨u,k b u hbe q⟩
end
def LB(h:fg)(H:Hp):List Addr:=(ey h.objs.size).filter λa=>(H a).isSome
def kq(h:fg)(H:Hp):Heap:=W.hideAll h (LB h H)
theorem mJ(h:fg)(H:Hp):(kq h H).objs.size=h.objs.size:=W.hideAll_size _ _
theorem lj{h:fg}{H:Hp}{b:b_}{o:Obj}(e:h.get? b=ar o)(n:H b=none):(kq h H).get? b=ar o:=
 W.hideAll_get _ e λhm=>by have q:(H b).isSome=true:=(List.mem_filter.mp hm).2;rw[n]at q;simp at q
theorem sV{h:fg}{H:Hp}{b:b_}{o:Obj}(e:(kq h H).get? b=ar o):h.get? b=ar o/\H b=none:=by
 have Z:h.get? b=ar o:=W.of_hideAll (LB h H) e;refine⟨Z,?_⟩;cases q:H b with
 |none=>rfl
 |some x=>
  have hm:b∈LB h H:=List.mem_filter.mpr ⟨N1.mpr (Ny Z),by simp[q]⟩;have z:(kq h H).get? b=none:=W.hideAll_none (LB h H) hm;rw[z]at e;cases e
def ll(g h:fg)(L:b_):List (b_×Obj):=(ey h.objs.size).filterMap λa=>if a=L\/(g.get? a).isSome=c_ then none else (h.get? a).map λo=>(a,o)
theorem uU{g h:fg}{L a:b_}{o:Obj}(Y:a≠L)(X:g.get? a=none)(Z:h.get? a=ar o):(a,o)∈ll g h L:=
 OR.mpr ⟨a,N1.mpr (Ny Z),by simp[Y,X,Z]⟩
theorem oM{g h:fg}{L:b_}{p:b_×Obj}(Z:p∈ll g h L):p.1≠L/\g.get? p.1=none/\h.get? p.1=ar p.2:=by
 obtain⟨b,_,e⟩:=OR.mp Z;split at e
 ·cases e
 ·rename_i hn
  cases q:h.get? b with
  |none=>rw[q]at e;simp at e
  |some u=>
   rw[q]at e;simp only[F_,Option.some.injEq]at e;subst e;refine⟨λz=>hn (.inl z),?_,q⟩;show g.get? b=none;cases r:g.get? b with
   |none=>rfl
   |some v=>exact(hn (.inr (by simp[r]))).elim
def rest(g h:fg)(L d:b_):List (b_×Obj):=(ll g h L).filter λp=>decide (p.1≠d)
theorem oO{g h:fg}{L:b_}:News g L h (ll g h L):=λp Z=>let ⟨a,b,c⟩:=oM Z;⟨c,a,b⟩
structure Mod(K:dt)(mg:Str->Option aC)(base:fg):Prop where
 kin:K.In base
 glob:base.Ns f_ mg
 blt:∃mb,base.Ns y_ mb/\∀x:Str,x≠"__name__"->mb x=la x
 nolimit:base.NoLimit
structure Cx where
 prog:eb
 w:er
 K:dt
 mg:Str->Option aC
 base:fg
 A:g_
 N:List Str
 s₀:a_
 H₀:Hp
 env:Env
 outer:List Env
 stack:List Env
 ex:List b_
 fn:Str->Bool
 calm:Bool
 pn:List (b_×Obj)
 xe:aC->a_->Prop
def jw(l:List Env):List Addr:=l.filterMap (·.frame)
abbrev Cx.fs(X:Cx):List Addr:=jw X.outer
def Gv(sc:Scope)(x:Str):Prop:=sc.names.lookup x=ar .local\/sc.names.lookup x=ar .cell\/sc.names.lookup x=ar .free
def Loc(sc:Scope)(x:Str):Prop:=sc.names.lookup x=ar .local\/sc.names.lookup x=ar .cell
def Look(env:Env)(h:fg)(m:Str->Option aC)(x:Str)(u:aC):Prop:=
 (env.kindOf x=ar .local/\m x=ar u)\/((env.kindOf x=ar .cell\/env.kindOf x=ar .free)/\∃c,env.cells.lookup x=ar c/\h.IsCell c (ar u))
structure Cx.Ok(X:Cx):Prop where
 mod:Mod X.K X.mg X.base
 kind:X.env.scope.kind= .function
 glob:X.env.globals=f_
 blt:X.env.builtins=y_
 above:X.s₀.heap.objs.size<=X.env.locals
 inj:∀x y c,X.env.cells.lookup x=ar c->X.env.cells.lookup y=ar c->x=y
 has:∀x,(X.env.kindOf x=ar .cell\/X.env.kindOf x=ar .free)->∃c,X.env.cells.lookup x=ar c
 cab:∀x c,X.fn x=c_->X.env.cells.lookup x=ar c->X.s₀.heap.objs.size<=c
 hd:X.calm=c_->X.A.handled=none
 frames:X.A.frames=ar X.stack
 stk:X.stack=X.outer\/(X.stack=X.env::X.outer/\X.env.frame=ar X.env.locals)
 exf:∀b∈X.ex,b≠X.env.locals/\∀x c,X.env.cells.lookup x=ar c->c≠b
 bs:∀b o,X.base.get? b=ar o->X.s₀.heap.get? b=ar o/\X.H₀ b=none
 bsz:X.base.objs.size<=X.s₀.heap.objs.size
 noex:∀b o,X.base.get? b=ar o->b∉X.ex
 exfs:∀b∈X.ex,b∉X.fs
 funs:X.s₀.heap.FunFrames X.base X.outer
 frf:∀b∈X.fs,X.H₀ b=none
structure Inv(X:Cx)(pins:List (b_×Obj))(σ:List (Option V))(H:Hp)(s:a_):Prop where
 ok:X.Ok
 os:s.os=X.s₀.os
 bare:D' s.gens
 base:Un X.fs X.ex X.H₀ H X.s₀.heap s.heap
 loc:∃m,s.heap.Ns X.env.locals m/\∀(i:Nat) (x:Str) (v:V),X.N[i]? =ar x->σ[i]? =ar (ar v)->Gv X.env.scope x->∃u,RelV v u/\Look X.env s.heap m x u
 cell:∀x c,X.env.cells.lookup x=ar c->∃v,s.heap.IsCell c v
 free:H X.env.locals=none
 freeC:∀x c,X.env.cells.lookup x=ar c->H c=none
 pin:∀p∈X.pn++pins,s.heap.get? p.1=ar p.2/\H p.1=none/\p.1≠X.env.locals/\p.1∉X.fs/\∀v,p.2.data≠ .cell v
 hok:gh X.prog X.w H s.heap
 len:σ.length=X.N.length
section
variable {X:Cx}{pins:List (b_×Obj)}{σ:List (Option V)}{H H':Hp}{s:a_}{h':fg}
theorem Cx.Ok.nofr(Y:X.Ok){b:b_}{o:Obj}(e:X.base.get? b=ar o):b∉X.fs:=λZ=>by have:=(Y.funs.mem Z).1;rw[e]at this;cases this
theorem Inv.bs(I:Inv X pins σ H s):∀b o,X.base.get? b=ar o->s.heap.get? b=ar o/\H b=none:=λb o e=>
 ⟨I.base.keep b o (I.ok.bs b o e).1 (I.ok.bs b o e).2 (I.ok.nofr e) (I.ok.noex b o e),I.base.free b o (I.ok.bs b o e).1 (I.ok.bs b o e).2 (I.ok.noex b o e)⟩
theorem Inv.bk(I:Inv X pins σ H s):∀b o,X.base.get? b=ar o->s.heap.get? b=ar o:=λb o e=>(I.bs b o e).1
theorem Inv.mod(I:Inv X pins σ H s):Mod X.K X.mg X.base:=I.ok.mod
theorem Inv.kIn(I:Inv X pins σ H s):X.K.In s.heap:=I.ok.mod.kin.keeps I.bk
theorem Inv.fr(I:Inv X pins σ H s):∃m,Fr X.base X.env.locals s.heap m:=
 let ⟨m,hn,_⟩:=I.loc
 ⟨m,hn,I.bk,Nz I.ok.bsz I.ok.above⟩
theorem Inv.lt(I:Inv X pins σ H s):X.env.locals<s.heap.objs.size:=let ⟨_,hn,_⟩:=I.loc;hn.lt
theorem Inv.sz(I:Inv X pins σ H s):X.s₀.heap.objs.size<=s.heap.objs.size:=Nz I.ok.above (O2 I.lt)
theorem Inv.nofs(I:Inv X pins σ H s){a:b_}(h:s.heap.objs.size<=a):a∉X.fs:=λZ=>by obtain⟨_,o,Y,_⟩:=I.ok.funs.mem Z;exact absurd (NK (Ny Y) (Nz I.sz h)) (OV _)
theorem Inv.cne(I:Inv X pins σ H s):∀x c,X.env.cells.lookup x=ar c->c≠X.env.locals:=λx c e z=>by obtain⟨v,o,W,hd⟩:=I.cell x c e;obtain⟨m,⟨U,es,ep,Y,Z,_⟩,_⟩:=I.loc;rw[z,Y]at W;cases W;rw[Z]at hd;cases hd
theorem Inv.funs(I:Inv X pins σ H s):s.heap.FunFrames X.base X.outer:=by
 have all:∀(l:List Env),(∀b∈jw l,b∈X.fs)->X.s₀.heap.FunFrames X.base l->s.heap.FunFrames X.base l:=by
  intro l
  induction l with
  |nil=>intro _ _;trivial
  |cons env r ih=>
   intro hs W;obtain⟨S,⟨L,o,hf,U,T,hd⟩,R⟩:=W;have Y:L∈X.fs:=hs L (by unfold jw;rw[Ol,hf];exact NM);obtain⟨Q,e⟩:=I.base.slot L o T (I.ok.frf L Y) Y λz=>I.ok.exfs L z Y;exact⟨S,⟨L,_,hf,U,e,hd⟩,ih (λb Z=>hs b (by unfold jw;rw[Ol,hf];exact NF _ Z)) R⟩
 exact all X.outer (λ_ Z=>Z) I.ok.funs
theorem Inv.stack(I:Inv X pins σ H s):s.heap.FunFrames X.base X.stack:=by
 rcases I.ok.stk with e|⟨e,hf⟩
 ·rw[e];exact I.funs
 ·rw[e];obtain⟨m,Z,_⟩:=I.loc;refine .cons (by rw[I.ok.kind];decide) hf Z ?_ I.funs;exact OU (Nz I.ok.bsz I.ok.above)
theorem Inv.stkSub(I:Inv X pins σ H s):∀b∈jw X.stack,b∈X.env.locals::X.fs:=λb Z=>by
 rcases I.ok.stk with e|⟨e,hf⟩
 ·rw[e]at Z;exact NF _ Z
 ·rw[e]at Z;unfold jw at Z;rw[Ol,hf]at Z;exact Z
theorem Inv.stkFree(I:Inv X pins σ H s):∀b∈jw X.stack,H b=none:=λb Z=>by
 rcases NB.mp (I.stkSub b Z)with e|Z
 ·rw[e];exact I.free
 ·obtain⟨_,o,Y,_⟩:=I.ok.funs.mem Z;exact I.base.free b o Y (I.ok.frf b Z) λz=>I.ok.exfs b z Z
theorem Inv.step{g':Array RT}{t':Nat}{d':Drawn}{ch:List b_}(I:Inv X pins σ H s)
  (W:∀b∈ch,(b∈X.ex\/X.s₀.heap.objs.size<=b)/\b≠X.env.locals/\(∀x c,X.env.cells.lookup x=ar c->c≠b)/\∀p∈X.pn++pins,p.1≠b)
  (keep:∀b o,b≠X.env.locals->b∉X.fs->b∉ch->s.heap.get? b=ar o->H b=none->h'.get? b=ar o)
  (S:∀b o,b≠X.env.locals->b∈X.fs->b∉ch->s.heap.get? b=ar o->H b=none->∃F,h'.get? b=ar {o with slots:=F}) (Y:∀b o,b∉ch->s.heap.get? b=ar o->H b=none->H' b=none)
  (R:∀b o,b∉ch->s.heap.get? b=ar o->∃L,h'.get? b=ar L)
  (N:∀b xs,H b=ar (.tup xs)->H' b=ar (.tup xs)) (K:∀b o u,H b=ar (.frz o u)->H' b=ar (.frz o u)) (O:∀b G,H b=ar (.tbl G)->∃more,H' b=ar (.tbl (G++more)))
  (ns:∀m,s.heap.Ns X.env.locals m->h'.Ns X.env.locals m) (C:gh X.prog X.w H' h') (j:D' g'):
  Inv X pins σ H' {s with heap:=h',gens:=g',drawn:=d',toks:=t'}:=by
 have J:∀b o,X.s₀.heap.get? b=ar o->b≠X.env.locals:=λb o e=>NL (NK (Ny e) I.ok.above);have T:∀b o,X.s₀.heap.get? b=ar o->b∉X.ex->b∉ch:=λb o e Z Q=>by
  rcases (W b Q).1 with z|z
  ·exact Z z
  ·exact absurd (NK (Ny e) z) (OV _)
 have cellK:∀x c,X.env.cells.lookup x=ar c->∀v,s.heap.IsCell c v->h'.IsCell c v:=λx c e v ⟨o,P,hd⟩=>by
  have U:c∉ch:=λz=>(W c z).2.2.1 x c e rfl;by_cases hc:c∈X.fs
  ·obtain⟨F,q⟩:=S c o (I.cne x c e) hc U P (I.freeC x c e);exact⟨_,q,hd⟩
  ·exact⟨o,keep c o (I.cne x c e) hc U P (I.freeC x c e),hd⟩
 refine⟨I.ok,I.os,j,⟨λb o e n Q Z=>?_,λb o e n Q Z=>?_,λb o e n Z=>?_,λb o e Z=>?_,λb xs e=>N b xs (I.base.tups b xs e),λb o xs e=>K b o xs (I.base.frzs b o xs e),λb G e=>?_⟩,?_,λx c e=>?_,?_,λx c e=>?_,λp B=>?_,C,I.len⟩
 ·exact keep b o (J b o e) Q (T b o e Z) (I.base.keep b o e n Q Z) (I.base.free b o e n Z)
 ·obtain⟨F,e1⟩:=I.base.slot b o e n Q Z;obtain⟨E,e2⟩:=S b _ (J b o e) Q (T b o e Z) e1 (I.base.free b o e n Z);exact⟨E,e2⟩
 ·obtain⟨L,e1⟩:=I.base.there b o e Z;exact Y b L (T b o e Z) e1 (I.base.free b o e n Z)
 ·obtain⟨L,e1⟩:=I.base.there b o e Z;exact R b L (T b o e Z) e1
 ·obtain⟨h,e1⟩:=I.base.tbls b G e;obtain⟨y,e2⟩:=O b _ e1;exact⟨h++y,by rw[e2,Array.append_assoc]⟩
 ·obtain⟨m,f,g⟩:=I.loc;refine⟨m,ns m f,λi x v e1 e2 t=>?_⟩;obtain⟨u,r,l⟩:=g i x v e1 e2 t;refine⟨u,r,?_⟩;rcases l with l|⟨k,c,e,z⟩
  ·exact .inl l
  ·exact .inr ⟨k,c,e,cellK x c e _ z⟩
 ·obtain⟨v,z⟩:=I.cell x c e;exact⟨v,cellK x c e v z⟩
 ·obtain⟨m,⟨o,_,_,P,_⟩,_⟩:=I.loc;exact Y _ o (λz=>(W _ z).2.1 rfl) P I.free
 ·obtain⟨v,o,P,hd⟩:=I.cell x c e;exact Y c o (λz=>(W c z).2.2.1 x c e rfl) P (I.freeC x c e)
 ·obtain⟨e,n,ne,A,d⟩:=I.pin p B;have U:p.1∉ch:=λz=>(W p.1 z).2.2.2 p B rfl;exact⟨keep p.1 p.2 ne A U e n,Y p.1 p.2 U e n,ne,A,d⟩
theorem Inv.un{t':Nat}(I:Inv X pins σ H s)(u:Un X.fs [] H H' s.heap h')(U:gh X.prog X.w H' h'):Inv X pins σ H' {s with heap:=h',toks:=t'}:=by
 obtain⟨m,⟨o,es,ep,T,r⟩,_⟩:=id I.loc;obtain⟨P,S⟩:=u.any T I.free (by simp);exact I.step (g':=s.gens) (d':=s.drawn) (ch:=[]) (λ_ z=>nomatch z) (λb o _ Y _ e n=>u.keep b o e n Y (by simp)) (λb o _ Y _ e n=>u.slot b o e n Y (by simp)) (λb o _ e n=>u.free b o e n (by simp)) (λb o _ e=>u.there b o e (by simp)) u.tups u.frzs u.tbls (λQ hm=>by obtain⟨O,es',W,Z,R⟩:=hm;rw[T]at Z;cases Z;exact⟨_,es',W,S,R⟩) U I.bare
theorem Inv.call{g':Array RT}{t':Nat}{d':Drawn}{ch:List b_}(I:Inv X pins σ H s)(u:Un (jw X.stack) ch H H' s.heap h')(S:gh X.prog X.w H' h')(P:D' g')
  (W:∀b∈ch,(b∈X.ex\/X.s₀.heap.objs.size<=b)/\b≠X.env.locals/\(∀x c,X.env.cells.lookup x=ar c->c≠b)/\∀p∈X.pn++pins,p.1≠b):
  Inv X pins σ H' {s with heap:=h',gens:=g',drawn:=d',toks:=t'}:=by
 obtain⟨m,⟨o,es,ep,R,r⟩,_⟩:=id I.loc;obtain⟨L,U⟩:=u.any R I.free λz=>(W _ z).2.1 rfl;exact I.step (ch:=ch) W (λb o U Q Z e n=>u.keep b o e n (λz=>(NB.mp (I.stkSub b z)).elim U Q) Z) (λb o _ _ Z e n=>u.any e n Z) (λb o Z e n=>u.free b o e n Z) (λb o Z e=>u.there b o e Z) u.tups u.frzs u.tbls (λN hm=>by obtain⟨K,es',T,Y,O⟩:=hm;rw[R]at Y;cases Y;exact⟨_,es',T,U,O⟩) S P
theorem Inv.turned{t':Nat}{it:b_}(I:Inv X pins σ H s)(k:∀b o,b≠it->s.heap.get? b=ar o->h'.get? b=ar o)(S:H it=none)(W:it≠X.env.locals)
  (T:it∈X.ex\/X.s₀.heap.objs.size<=it) (P:∀x c,X.env.cells.lookup x=ar c->c≠it) (Q:∀p∈X.pn++pins,p.1≠it):Inv X pins σ H {s with heap:=h',toks:=t'}:=by
 have Y:∀b u,H b=ar u->b≠it:=λb u e z=>by rw[z,S]at e;cases e
 refine I.step (g':=s.gens) (d':=s.drawn) (ch:=[it]) (λb U=>?_) (λb o _ _ Z e _=>k b o (λz=>Z (by simp[z])) e) (λb o _ _ Z e _=>⟨o.slots,k b o (λz=>Z (by simp[z])) e⟩) (λ_ _ _ _ n=>n)
  (λb o Z e=>⟨o,k b o (λz=>Z (by simp[z])) e⟩) (λ_ _ e=>e) (λ_ _ _ e=>e) (λb O e=>⟨#[],by rw[e];simp⟩) (λm hm=>?_) (λb u e=>?_) I.bare
 ·have e:b=it:=by simpa using U
  subst e;exact⟨T,W,P,Q⟩
 ·obtain⟨o,es,ep,R,r⟩:=hm;exact⟨o,es,ep,k _ o (j' W) R,r⟩
 ·refine(I.hok b u e).stay (λc v Z q=>k c v ?_ q) (λ_ q=>q) λ_ _ q=>q;rcases Z with z|z
  ·rw[z];exact Y b u e
  ·exact Y c _ z
theorem Inv.tok(I:Inv X pins σ H s)(t:Nat):Inv X pins σ H {s with toks:=t}:=I.un (h':=s.heap) (t':=t) Un.refl I.hok
theorem Inv.kept{t':Nat}(I:Inv X pins σ H s)(k:∀b u,s.heap.get? b=ar u->h'.get? b=ar u):Inv X pins σ H {s with heap:=h',toks:=t'}:=I.un (Un.kept k) (I.hok.kept k)
theorem Inv.laid{a:b_}{o:HO}{t':Nat}(I:Inv X pins σ H s)(k:∀b u,s.heap.get? b=ar u->h'.get? b=ar u)(Y:s.heap.objs.size<=a)(Z:bh X.prog X.w (upd H a o) h' a o):
  Inv X pins σ (upd H a o) {s with heap:=h',toks:=t'}:=I.un (Un.laid k Y (I.hok.fresh Y)) (I.hok.laid k Y Z)
theorem Inv.write{x e:b_}{o:HO}{t':Nat}(I:Inv X pins σ H s)(U:LA (H x))(W:e=x\/H e=ar (.own x))(k:∀b u,b≠e->s.heap.get? b=ar u->h'.get? b=ar u)(Z:∃u,h'.get? e=ar u)
  (Y:bh X.prog X.w (upd H x o) h' x o):Inv X pins σ (upd H x o) {s with heap:=h',toks:=t'}:=I.un (Un.write U W k Z) (I.hok.write U W k Z Y)
theorem Inv.pins_of{Z:List (b_×Obj)}(I:Inv X pins σ H s)(h:∀p∈Z,s.heap.get? p.1=ar p.2/\H p.1=none/\p.1≠X.env.locals/\p.1∉X.fs/\∀v,p.2.data≠ .cell v):Inv X Z σ H s:=
 ⟨I.ok,I.os,I.bare,I.base,I.loc,I.cell,I.free,I.freeC,λp Y=>(Oi.mp Y).elim (λz=>I.pin p (O9 _ z)) (h p),I.hok,I.len⟩
theorem oQ{N:List Str}(Z:N.Nodup){i j:Nat}{x:Str}(a:N[i]? =ar x)(b:N[j]? =ar x):i=j:=by obtain⟨Y,e1⟩:=Nx.mp a;obtain⟨W,e2⟩:=Nx.mp b;exact(List.getElem_inj Z).mp (e1.trans e2.symm)
theorem rN{M:SK}{A:g_}{E:aC->a_->Prop}{i:Nat}{x:Str}{v:V}{u:aC}{Q:Unit->a_->Prop}(I:Inv X pins σ H s)(hN:X.N.Nodup)(O:X.N[i]? =ar x)(Y:Loc X.env.scope x)(r:RelV v u)
  (h:∀s',Inv X pins (σ.set i (ar v)) H s'->(∃a,s_ a s.heap s'.heap/\(a=X.env.locals\/X.env.cells.lookup x=ar a))->Q () s') (hf:X.fn x=c_\/X.env.scope.names.lookup x=ar .local:=by first|exact .inl rfl|exact .inr rfl|assumption):d_ M A (storeName X.env x u) Q E s:=by
 obtain⟨m,hn,hl⟩:=id I.loc;have P:(X.env.scope.kind== .class||(X.env.scope.kind== .module && X.env.locals !=X.env.globals))=false:=by rw[I.ok.kind];rfl
 have U:i<σ.length:=by rw[I.len];exact(Nx.mp O).1
 have R:=I.cne;have tracked:∀{a:b_} {h':fg},(∃o,s.heap.get? a=ar o/\H a=none)->s_ a s.heap h'->gh X.prog X.w H h':=λ{a h'} ha hs b ob e=>by
  obtain⟨_,_,W⟩:=ha;refine(I.hok b ob e).stay (λc F Z q=>(hs.2 c ?_).trans q) (λ_ q=>q) λ_ _ q=>q;rintro rfl;rcases Z with rfl|Z
  ·rw[W]at e;cases e
  ·rw[W]at Z;cases Z
 rcases Y with hk|hk
 ·refine wpAny_storeName_local hk hn (λh' t hs=>?_) P;obtain⟨oL,_,_,a6,_⟩:=id hn;refine h _ ⟨I.ok,I.os,I.bare,⟨λb o e n T Y=>?_,λb o e n T Y=>?_,I.base.free,λb o e Y=>?_,I.base.tups,I.base.frzs,I.base.tbls⟩,⟨_,t,λj y f e1 e2 g=>?_⟩,λy c e=>?_,I.free,I.freeC,λp hp=>?_,tracked ⟨oL,a6,I.free⟩ hs,by simpa using I.len⟩ ⟨_,hs,.inl rfl⟩
  ·exact(hs.2 b (NL (NK (Ny e) I.ok.above))).trans (I.base.keep b o e n T Y)
  ·obtain⟨C,e1⟩:=I.base.slot b o e n T Y;exact⟨C,(hs.2 b (NL (NK (Ny e) I.ok.above))).trans e1⟩
  ·obtain⟨o',e1⟩:=I.base.there b o e Y;exact⟨o',(hs.2 b (NL (NK (Ny e) I.ok.above))).trans e1⟩
  ·by_cases hj:j=i
   ·subst hj;rw[O]at e1;cases e1;rw[N9 U]at e2;cases e2;exact⟨u,r,.inl ⟨hk,by simp⟩⟩
   ·rw[Ou (j' hj)]at e2;obtain⟨l,B,q⟩:=hl j y f e1 e2 g;refine⟨l,B,?_⟩;rcases q with⟨k,e⟩|⟨k,c,e,z⟩
    ·refine .inl ⟨k,?_⟩;have:y≠x:=λe=>hj (oQ hN e1 (e ▸ O));simp[this,e]
    ·exact .inr ⟨k,c,e,z.sameBut hs (R y c e)⟩
  ·obtain⟨F,z⟩:=I.cell y c e;exact⟨F,z.sameBut hs (R y c e)⟩
  ·obtain⟨e,n,ne,nf,d⟩:=I.pin p hp;exact⟨(hs.2 p.1 ne).trans e,n,ne,nf,d⟩
 ·have S:X.fn x=true:=by
   rcases hf with z|z
   ·exact z
   ·rw[z]at hk;cases hk
  obtain⟨c,Z⟩:=I.ok.has x (.inl hk);obtain⟨F,z⟩:=I.cell x c Z;refine wpAny_storeName_cell I.ok.kind hk Z z (λh' K hs=>?_);obtain⟨oc,J,L⟩:=id z;refine h {s with heap:=h'} ⟨I.ok,I.os,I.bare,⟨λb o e n T Y=>?_,λb o e n T Y=>?_,I.base.free,λb o e Y=>?_,I.base.tups,I.base.frzs,I.base.tbls⟩,⟨m,hn.sameBut hs (j' (R x c Z)),λj y f e1 e2 g=>?_⟩,λy G e=>?_,I.free,I.freeC,λp hp=>?_,tracked ⟨oc,J,I.freeC x c Z⟩ hs,by simpa using I.len⟩ ⟨c,hs,.inr Z⟩
  ·exact(hs.2 b (NL (NK (Ny e) (I.ok.cab x c S Z)))).trans (I.base.keep b o e n T Y)
  ·obtain⟨C,e1⟩:=I.base.slot b o e n T Y;exact⟨C,(hs.2 b (NL (NK (Ny e) (I.ok.cab x c S Z)))).trans e1⟩
  ·obtain⟨o',e1⟩:=I.base.there b o e Y;exact⟨o',(hs.2 b (NL (NK (Ny e) (I.ok.cab x c S Z)))).trans e1⟩
  ·by_cases hj:j=i
   ·subst hj;rw[O]at e1;cases e1;rw[N9 U]at e2;cases e2;exact⟨u,r,.inr ⟨.inl hk,c,Z,K⟩⟩
   ·rw[Ou (j' hj)]at e2;obtain⟨l,B,q⟩:=hl j y f e1 e2 g;refine⟨l,B,?_⟩;rcases q with q|⟨k,G,e,z'⟩
    ·exact .inl q
    ·refine .inr ⟨k,G,e,z'.sameBut hs ?_⟩;rintro rfl;exact hj (oQ hN e1 (I.ok.inj _ _ _ e Z ▸ O))
  ·by_cases hcc:G=c
   ·subst hcc;exact⟨_,K⟩
   ·obtain⟨w2,z2⟩:=I.cell y G e;exact⟨w2,z2.sameBut hs hcc⟩
  ·obtain⟨e,n,ne,nf,d⟩:=I.pin p hp;refine⟨(hs.2 p.1 ?_).trans e,n,ne,nf,d⟩;intro q;rw[q,J]at e;have q':oc=p.2:=NW e;exact d F (by rw[<-q'];exact L)
theorem jx{M:SK}{A:g_}{E:aC->a_->Prop}{i:Nat}{x:Str}{v:V}{u:aC}{Q:Unit->a_->Prop}(I:Inv X pins σ H s)(Z:X.N.Nodup)(U:X.N[i]? =ar x)(Y:Loc X.env.scope x)(r:RelV v u)
  (h:∀s',Inv X pins (σ.set i (ar v)) H s'->Q () s') (T:X.fn x=c_\/X.env.scope.names.lookup x=ar .local:=by first|exact .inl rfl|exact .inr rfl|assumption):d_ M A (storeName X.env x u) Q E s:=
 rN I Z U Y r (λs' W _=>h s' W) T
theorem Inv.call'{s':a_}{ch:List b_}(I:Inv X pins σ H s)(U:s'.os=s.os)(u:Un (jw X.stack) ch H H' s.heap s'.heap)(Y:gh X.prog X.w H' s'.heap)(W:D' s'.gens)
  (Z:∀b∈ch,(b∈X.ex\/X.s₀.heap.objs.size<=b)/\b≠X.env.locals/\(∀x c,X.env.cells.lookup x=ar c->c≠b)/\∀p∈X.pn++pins,p.1≠b):Inv X pins σ H' s':=by
 obtain⟨h',g',d',t',T⟩:=s';have e:T=s.os:=U;subst e;exact I.call (g':=g') (t':=t') (d':=d') u Y W Z
end
abbrev XK:=aC->Option b_->Hp->Prop
abbrev St:=List (Option V)
abbrev VK:=V->Hp->Prop
abbrev TE:=St->Hp->VK->Prop
abbrev TT:=St->Hp->(Bool->Hp->Prop)->Prop
abbrev TA:=St->Hp->(List V->Hp->Prop)->Prop
structure Ends where
 nx:St->Hp->Prop
 rt:VK
 bk:St->Hp->Prop:=λ_ _=>False
 ct:St->Hp->Prop:=λ_ _=>False
abbrev TS:=Ends->St->Hp->Prop
def EP(X:Cx)(pins:List (b_×Obj))(σ:St)(Q:VK)(u:aC)(s':a_):Prop:=∃v H',Inv X pins σ H' s'/\RelV v u/\Q v H'
def TP(X:Cx)(pins:List (b_×Obj))(σ:St)(Q:Bool->Hp->Prop)(b:Bool)(s':a_):Prop:=∃H',Inv X pins σ H' s'/\Q b H'
def AP(X:Cx)(pins:List (b_×Obj))(σ:St)(Q:List V->Hp->Prop)(us:List aC)(s':a_):Prop:=∃vs H',Inv X pins σ H' s'/\bj vs us/\Q vs H'
def SP(X:Cx)(pins:List (b_×Obj))(D:Ends)(f:Flow)(s':a_):Prop:=
 match f with
 | .next=>∃ σ' H',Inv X pins σ' H' s'/\D.nx σ' H'
 | .brk=>∃ σ' H',Inv X pins σ' H' s'/\D.bk σ' H'
 | .cont=>∃ σ' H',Inv X pins σ' H' s'/\D.ct σ' H'
 | .ret u=>∃v σ' H',Inv X pins σ' H' s'/\RelV v u/\D.rt v H'
def PE(X:Cx)(e:Expr)(t:TE):Prop:=
 ∀(pins:List (b_×Obj)) (s:a_) (σ:St) (H:Hp) (Q:VK),Inv X pins σ H s->t σ H Q->d_ (eK X.prog X.w) X.A (g6 e X.env) (EP X pins σ Q) X.xe s
def PT(X:Cx)(e:Expr)(t:TT):Prop:=
 ∀(pins:List (b_×Obj)) (s:a_) (σ:St) (H:Hp) (Q:Bool->Hp->Prop),Inv X pins σ H s->t σ H Q->d_ (eK X.prog X.w) X.A (isTrue e X.env (g6 e X.env)) (TP X pins σ Q) X.xe s
def PW(X:Cx)(e:Expr)(t:TT):Prop:=
 ∀(whole:Sem aC) (pins:List (b_×Obj)) (s:a_) (σ:St) (H:Hp) (Q:Bool->Hp->Prop),Inv X pins σ H s->t σ H Q->d_ (eK X.prog X.w) X.A (isTrue e X.env whole) (TP X pins σ Q) X.xe s
theorem PW.pt{X:Cx}{e:Expr}{t:TT}(h:PW X e t):PT X e t:=h _
def PA(X:Cx)(es:List Expr)(t:TA):Prop:=
 ∀(pos:Pos) (pins:List (b_×Obj)) (s:a_) (σ:St) (H:Hp) (Q:List V->Hp->Prop),Inv X pins σ H s->t σ H Q->d_ (eK X.prog X.w) X.A (spliced (u' pos (dV es X.env))) (AP X pins σ Q) X.xe s
def PS(X:Cx)(st:sb)(t:TS):Prop:=
 ∀(pins:List (b_×Obj)) (s:a_) (σ:St) (H:Hp) (D:Ends),Inv X pins σ H s->t D σ H->d_ (eK X.prog X.w) X.A (exec st X.env) (SP X pins D) X.xe s
def rg(X:Cx)(st:List sb)(t:TS):Prop:=
 ∀(pins:List (b_×Obj)) (s:a_) (σ:St) (H:Hp) (D:Ends),Inv X pins σ H s->t D σ H->d_ (eK X.prog X.w) X.A (execs st X.env) (SP X pins D) X.xe s
theorem dq{Z:Type}{t:Sem Z}{Q Y:Z->a_->Prop}{M:SK}{A:g_}{E:aC->a_->Prop}{s:a_}(h:d_ M A t Q E s)(X:∀a s,Q a s->Y a s):d_ M A t Y E s:=OM h X λ_ _ x=>x
section
variable {X:Cx}
def L6(i:Nat):TE:=λσ H Q=>∃v,σ[i]? =ar (ar v)/\Q v H
def tC(v:V):TE:=λ_ H Q=>Q v H
theorem wK{i:Nat}{x:Str}{pos:Pos}(W:X.N[i]? =ar x)(S:Gv X.env.scope x)(Z:(x==("__debug__":Str))=false:=by decide)(Y:(x==("__classdict__":Str))=false:=by decide):PE X (.Name x pos) (L6 i):=by
 intro pins s σ H Q I h;obtain⟨v,e,h⟩:=h;obtain⟨m,T,U⟩:=I.loc;obtain⟨u,r,l⟩:=U i x v W e S;have fin:EP X pins σ Q u s:=⟨v,H,I,r,h⟩;rcases l with⟨hk,hm⟩|⟨hk,c,hc,hcell⟩
 ·exact SV (wpAny_loadName_local I.ok.kind hk T hm fin) Z
 ·rcases hk with hk|hk
  ·exact SV (wpAny_loadName_cell I.ok.kind hk hc hcell fin) Z
  ·exact SV (wpAny_loadName_free I.ok.kind hk hc hcell fin Y) Z
theorem Bd{i j pos}:PE X (.Constant (.int i) j pos) (tC (.int i)):=λ_ _ _ H _ I h=>wpAny_Constant_int ⟨.int i,H,I.tok _,⟨_,rfl⟩,h⟩
theorem J0{b j pos}:PE X (.Constant (.bool b) j pos) (tC (.bl b)):=λ_ _ _ H _ I h=>Constant_bool ⟨.bl b,H,I,rfl,h⟩
theorem Hh{j pos}:PE X (.Constant .none j pos) (tC .non):=λ_ _ _ H _ I h=>Constant_none ⟨.non,H,I,rfl,h⟩
theorem Hi{x j pos}:PE X (.Constant (.str x) j pos) (tC (.str x)):=λ_ _ _ H _ I h=>Calls.Constant_str ⟨.str x,H,I.tok _,⟨_,rfl⟩,h⟩
def Gl(X:Cx)(x:Str):Prop:=X.env.kindOf x=ar .globalImplicit
theorem lq{E:aC->a_->Prop}{Z:List (b_×Obj)}{s:a_}{T:St}{H:Hp}{x:Str}{u:aC}{pos:Pos}{Q:aC->a_->Prop}(I:Inv X Z T H s)(Y:Gl X x)(W:X.mg x=ar u)(h:Q u s)
  (U:(x==("__debug__":Str))=false:=by decide):d_ (eK X.prog X.w) X.A (g6 (.Name x pos) X.env) Q E s:=
 QJ I.ok.kind Y (Calls.loadGlobal_global (by rw[I.ok.glob];exact I.mod.glob.keeps I.bk) W h) U
theorem mL{E:aC->a_->Prop}{Z:List (b_×Obj)}{s:a_}{R:St}{H:Hp}{x:Str}{u:aC}{pos:Pos}{Q:aC->a_->Prop}(I:Inv X Z R H s)(Y:Gl X x)(W:X.mg x=none)(P:la x=ar u)(h:Q u s)
  (T:x≠"__name__":=by decide) (S:(x==("__debug__":Str))=false:=by decide):d_ (eK X.prog X.w) X.A (g6 (.Name x pos) X.env) Q E s:=by
 obtain⟨N,U,O⟩:=I.mod.blt;exact QJ I.ok.kind Y (Calls.loadGlobal_builtin (by rw[I.ok.glob];exact I.mod.glob.keeps I.bk) W (by rw[I.ok.blt];exact U.keeps I.bk) ((O x T).trans P) h) S
theorem sW{x:Str}{v:V}{u:aC}{pos:Pos}(Z:Gl X x)(Y:X.mg x=ar u)(r:RelV v u)(W:(x==("__debug__":Str))=false:=by decide):PE X (.Name x pos) (tC v):=
 λ_ _ _ H _ I h=>lq I Z Y ⟨v,H,I,r,h⟩ W
theorem ot{x:Str}{v:V}{u:aC}{pos:Pos}(Y:Gl X x)(W:X.mg x=none)(T:la x=ar u)(r:RelV v u)(Z:x≠"__name__":=by decide)(U:(x==("__debug__":Str))=false:=by decide):PE X (.Name x pos) (tC v):=
 λ_ _ _ H _ I h=>mL I Y W T ⟨v,H,I,r,h⟩ Z U
variable {a b:Expr}{ta tb:TE}{pos:Pos}
theorem uV(b:Expr){op:TH}(h:op≠ .In)(Z:op≠ .NotIn):ly op b=false:=by
 have e1:(op==CmpOp.In)=false:=by cases op<;>first|rfl|exact absurd rfl h
 have e2:(op==CmpOp.NotIn)=false:=by cases op<;>first|rfl|exact absurd rfl Z
 cases b<;>simp[ly,e1,e2]
def tB(t:TE):TT:=λσ H Q=>t σ H λx H1=>∃c,x= .bl c/\Q c H1
theorem Hj{e:Expr}{t:TE}(h:PE X e t)(Z:∀whole,isTrue e X.env whole=(do let v<-whole;Tu e.pos;J' [v] (truthy v)):=by intro _;rfl):PT X e (tB t):=by intro pins s σ H Q I hw;refine isTrue_plain (dq (h pins s σ H _ I hw) λv s1 ⟨x,H1,I1,r1,q1⟩=>?_) (Z _);obtain⟨d,rfl,q⟩:=q1;cases r1;exact Ot ⟨H1,I1,q⟩
variable {tA tB':TT}{rest:List Expr}
def L7(t u:TT):TT:=λσ H Q=>t σ H λc H1=>if c=c_ then u σ H1 Q else Q dr H1
def M4(t u:TT):TT:=λσ H Q=>t σ H λc H1=>if c=c_ then Q c_ H1 else u σ H1 Q
def L8(t:TT):TT:=λσ H Q=>t σ H λc H1=>Q (!c) H1
theorem Er(Z:PT X a tA):PW X (.BoolOp .And [a] pos) tA:=by
 intro Y pins s σ H Q I h;refine isTrue_and (dq (Z pins s σ H Q I h) λc s1 e=>?_);cases c with
 |true=>exact isTrue_and_nil e
 |false=>exact e
theorem Hk(Z:PT X a tA):PW X (.BoolOp .Or [a] pos) tA:=by
 intro Y pins s σ H Q I h;refine isTrue_or (dq (Z pins s σ H Q I h) λc s1 e=>?_);cases c with
 |false=>exact isTrue_or_nil e
 |true=>exact e
theorem Hl(W:PT X a tA)(Z:PW X (.BoolOp .And (b::rest) pos) tB'):PW X (.BoolOp .And (a::b::rest) pos) (L7 tA tB'):=by
 intro Y pins s σ H Q I h;refine isTrue_and (dq (W pins s σ H _ I h) λc s1 ⟨H1,I1,q1⟩=>?_);cases c with
 |true=>exact Z Y pins s1 σ H1 Q I1 q1
 |false=>exact⟨H1,I1,q1⟩
theorem J1(W:PT X a tA)(Z:PW X (.BoolOp .Or (b::rest) pos) tB'):PW X (.BoolOp .Or (a::b::rest) pos) (M4 tA tB'):=by
 intro Y pins s σ H Q I h;refine isTrue_or (dq (W pins s σ H _ I h) λc s1 ⟨H1,I1,q1⟩=>?_);cases c with
 |true=>exact⟨H1,I1,q1⟩
 |false=>exact Z Y pins s1 σ H1 Q I1 q1
theorem Hm(Y:PT X a tA):PT X (.UnaryOp .Not a pos) (L8 tA):=by intro pins s σ H Q I h;exact isTrue_not (Y pins s σ H (λc Z=>Q (!c) Z) I h)
def J2(ta tb:TE):TE:=λσ H Q=>ta σ H λx H1=>∃c,x= .bl c/\if c=c_ then tb σ H1 Q else Q (.bl dr) H1
def J3(ta:TE):TE:=λσ H Q=>ta σ H λx H1=>∃c,x= .bl c/\Q (.bl (!c)) H1
theorem Hn{op}{t:TE}(h:PE X a t):PE X (.BoolOp op [a] pos) t:=λpins s σ H Q I hw=>BoolOp_one (h pins s σ H Q I hw)
theorem Ho(W:PE X a ta)(Y:PE X (.BoolOp .And (b::rest) pos) tb):PE X (.BoolOp .And (a::b::rest) pos) (J2 ta tb):=by
 intro pins s σ H Q I h;refine BoolOp_and (dq (W pins s σ H _ I h) λv s1 ⟨x,H1,I1,r1,Z⟩=>?_);obtain⟨c,rfl,Z⟩:=Z;cases r1;refine Ot ?_;cases c with
 |true=>exact Y pins s1 σ H1 Q I1 Z
 |false=>exact⟨.bl dr,H1,I1,rfl,Z⟩
theorem Hq(Y:PE X a ta):PE X (.UnaryOp .Not a pos) (J3 ta):=by intro pins s σ H Q I h;refine UnaryOp_ (dq (Y pins s σ H _ I h) λv s1 ⟨x,H1,I1,r1,Z⟩=>?_);obtain⟨c,rfl,Z⟩:=Z;cases r1;exact not_of (Ot ⟨.bl (!c),H1,I1,rfl,Z⟩)
def M5(t:TT)(ta tb:TE):TE:=λσ H Q=>t σ H λc H1=>if c=c_ then ta σ H1 Q else tb σ H1 Q
theorem Be{c:Expr}(Y:PT X c tA)(W:PE X a ta)(Z:PE X b tb):PE X (.IfExp c a b pos) (M5 tA ta tb):=by
 intro pins s σ H Q I h;refine wpAny_IfExp (dq (Y pins s σ H _ I h) λd s1 ⟨H1,I1,q1⟩=>?_);cases d with
 |true=>exact W pins s1 σ H1 Q I1 q1
 |false=>exact Z pins s1 σ H1 Q I1 q1
end
def jz(K:dt)(H:Hp)(a:b_)(xs:List V):Prop:=
 Rd H a (.lst xs)\/
  ∃(o:Obj) (its:Array aC) (n:Nat),K.lookup a=ar o/\o.cls= .type "list"/\o.dict=none/\o.data= .seq its n/\its.size<=sizeLine/\bj xs its.toList
def lu(K:dt)(H:Hp)(a:b_)(xs:List V):Prop:=
 Rd H a (.tup xs)\/
  ∃(o:Obj) (its:Array aC) (n:Nat),K.lookup a=ar o/\o.cls= .type "tuple"/\o.data= .seq its n/\its.size<=sizeLine/\bj xs its.toList
def L9:aC->Option V
 | .none=>ar .non
 | .bool b=>ar (.bl b)
 | .int i _=>ar (.int i)
 | .str x _=>ar (.str x)
 | .bytes b _=>ar (.byt b)
 | .float b _=>ar (.flt b)
 | .ref a=>ar (.ref a)
 | .type n=>ar (.ty n)
 |_=>none
theorem RelV.abs{x:V}{u:aC}(r:RelV x u):L9 u=ar x:=by
 cases x with
 |non=>cases r;rfl
 |bl _=>cases r;rfl
 |int _=>obtain⟨t,rfl⟩:=r;rfl
 |str _=>obtain⟨t,rfl⟩:=r;rfl
 |byt _=>obtain⟨t,rfl⟩:=r;rfl
 |flt _=>obtain⟨t,rfl⟩:=r;rfl
 |ref _=>cases r;rfl
 |ty _=>cases r;rfl
theorem RelV.inj{x y:V}{u:aC}(r:RelV x u)(q:RelV y u):x=y:=NW (r.abs.symm.trans q.abs)
theorem bj.inj:∀{xs ys:List V} {us:List aC},bj xs us->bj ys us->xs=ys
 |_,_,_,.nil,.nil=>rfl
 |_,_,_,.cons r t,.cons r' t'=>by rw[r.inj r',bj.inj t t']
section
variable {X:Cx}{pins:List (b_×Obj)}{σ:St}{H:Hp}{s:a_}{a:b_}{xs ys:List V}
theorem jz.of{K:dt}(h:H a=ar (.lst xs)):jz K H a xs:=.inl (.inl h)
theorem lu.of{K:dt}(h:H a=ar (.tup xs)):lu K H a xs:=.inl (.inl h)
theorem Inv.list(I:Inv X pins σ H s)(h:jz X.K H a xs):∃its:List aC,bj xs its/\PlainL s.heap a its.toArray/\xs.length<=sizeLine:=by
 rcases h with h|⟨o,its,n,hk,hc,hd,hs,hz,r⟩
 ·obtain⟨z,its,n,r,e⟩:=h.ok I.hok;exact⟨its,r,⟨_,n,e,rfl,rfl,rfl⟩,z⟩
 ·refine⟨its.toList,r,⟨o,n,I.kIn a o hk,hc,hd,by simpa using hs⟩,?_⟩;have e:=r.length;simp only[I_]at e;omega
theorem Inv.tuple(I:Inv X pins σ H s)(h:lu X.K H a xs):∃its:List aC,bj xs its/\Tg s.heap a its.toArray/\xs.length<=sizeLine:=by
 rcases h with h|⟨o,its,n,hk,hc,hs,hz,r⟩
 ·obtain⟨z,its,r,p⟩:=h.ok I.hok;exact⟨its,r,p,z.1⟩
 ·refine⟨its.toList,r,⟨o,I.kIn a o hk,hc,n,by simpa using hs⟩,?_⟩;have e:=r.length;simp only[I_]at e;omega
theorem Inv.list_inj(I:Inv X pins σ H s)(h:jz X.K H a xs)(h':jz X.K H a ys):xs=ys:=by
 obtain⟨its,r,⟨o,n,e,_,_,d⟩,_⟩:=I.list h;obtain⟨its',Y,⟨W,U,Z,_,_,d'⟩,_⟩:=I.list h';rw[e]at Z;cases Z;rw[d]at d';injection d' with d1 _;have:its=its':=by simpa using Of Array.toList d1
 subst this;exact r.inj Y
theorem Inv.tuple_inj(I:Inv X pins σ H s)(h:lu X.K H a xs)(h':lu X.K H a ys):xs=ys:=by
 obtain⟨its,r,⟨o,e,_,n,d⟩,_⟩:=I.tuple h;obtain⟨its',Y,⟨W,Z,_,U,d'⟩,_⟩:=I.tuple h';rw[e]at Z;cases Z;rw[d]at d';injection d' with d1 _;have:its=its':=by simpa using Of Array.toList d1
 subst this;exact r.inj Y
end
abbrev Cx.wish(X:Cx)(E:aC->a_->Prop):Cx:={X with xe:=E}
abbrev Cx.nox(X:Cx):Cx:=X.wish λ_ _=>False
theorem Cx.Ok.wish{X:Cx}(Z:X.Ok)(E:aC->a_->Prop):(X.wish E).Ok:=
 ⟨Z.mod,Z.kind,Z.glob,Z.blt,Z.above,Z.inj,Z.has,Z.cab,Z.hd,Z.frames,Z.stk,Z.exf,Z.bs,Z.bsz,Z.noex,Z.exfs,Z.funs,Z.frf⟩
theorem Cx.Ok.unwish{X:Cx}{E:aC->a_->Prop}(Z:(X.wish E).Ok):X.Ok:=
 ⟨Z.mod,Z.kind,Z.glob,Z.blt,Z.above,Z.inj,Z.has,Z.cab,Z.hd,Z.frames,Z.stk,Z.exf,Z.bs,Z.bsz,Z.noex,Z.exfs,Z.funs,Z.frf⟩
section
variable {X:Cx}{pins:List (b_×Obj)}{σ:St}{H:Hp}{s:a_}{E:aC->a_->Prop}
theorem Inv.wish(I:Inv X pins σ H s)(E:aC->a_->Prop):Inv (X.wish E) pins σ H s:=⟨I.ok.wish E,I.os,I.bare,I.base,I.loc,I.cell,I.free,I.freeC,I.pin,I.hok,I.len⟩
theorem Inv.unwish(I:Inv (X.wish E) pins σ H s):Inv X pins σ H s:=⟨I.ok.unwish,I.os,I.bare,I.base,I.loc,I.cell,I.free,I.freeC,I.pin,I.hok,I.len⟩
theorem SP.unwish{D:Ends}{f:Flow}{s':a_}(h:SP (X.wish E) pins D f s'):SP X pins D f s':=by
 cases f with
 |next=>obtain⟨Z,Y,I,q⟩:=h;exact⟨Z,Y,I.unwish,q⟩
 |brk=>obtain⟨Z,Y,I,q⟩:=h;exact⟨Z,Y,I.unwish,q⟩
 |cont=>obtain⟨Z,Y,I,q⟩:=h;exact⟨Z,Y,I.unwish,q⟩
 |ret u=>obtain⟨v,Z,Y,I,r,q⟩:=h;exact⟨v,Z,Y,I.unwish,r,q⟩
theorem rg.nox{st:List sb}{t:TS}(h:rg X.nox st t):rg X st t:=λpins s σ H D I hw=>
 OM (h pins s σ H D (I.wish _) hw) (λ_ _ q=>q.unwish) λ_ _ z=>j1 z
end
section
variable {X:Cx}{st:sb}{rest:List sb}{t u:TS}{e:Expr}{te:TE}{pos:Pos}
def J4:TS:=λD σ H=>D.nx σ H
def Ma(t u:TS):TS:=λD σ H=>t {D with nx:=u D} σ H
theorem Es:rg X [] J4:=λ_ _ σ H _ I h=>Pp ⟨σ,H,I,h⟩
theorem Bg(W:PS X st t)(T:rg X rest u):rg X (st::rest) (Ma t u):=by
 intro pins s σ H D I h;refine Rn (dq (W pins s σ H {D with nx:=u D} I h) λf s1 q=>?_);cases f with
 |next=>
  obtain⟨Z,Y,U,q⟩:=q;exact T pins s1 Z Y D U q
 |ret v=>exact q
 |brk=>exact q
 |cont=>exact q
theorem yd(Z:PS X st t):rg X [st] t:=by
 intro pins s σ H D I h;refine Rn (dq (Z pins s σ H D I h) λf s1 q=>?_);cases f with
 |next=>exact Pp q
 |ret v=>exact q
 |brk=>exact q
 |cont=>exact q
theorem Inv.quiet{Z:List (b_×Obj)}{Y:St}{H:Hp}{s:a_}(I:Inv X Z Y H s):interactive X.env=false:=by simp[interactive,I.ok.kind]
def J5(te:TE):TS:=λD σ H=>te σ H λ_ H1=>D.nx σ H1
theorem Et(Z:PE X e te)(hs:l_ e none pos.line X.env=aw false:=by rfl):PS X (.Expr e pos) (J5 te):=by intro pins s σ H D I h;exact wpAny_Expr_any (dq (Z pins s σ H _ I h) λv s1 ⟨x,H1,I1,r1,q1⟩=>⟨σ,H1,I1,q1⟩) I.quiet hs
def Mb(te:TE):TS:=λD σ H=>te σ H D.rt
theorem Hr(Z:PE X e te):PS X (.Return (ar e) pos) (Mb te):=by intro pins s σ H D I h;exact wpAny_Return_some (dq (Z pins s σ H _ I h) λv s1 ⟨x,H1,I1,r1,q1⟩=>⟨x,σ,H1,I1,r1,q1⟩)
def Mc(c:TT)(t u:TS):TS:=λD σ H=>c σ H λb H1=>if b=c_ then t D σ H1 else u D σ H1
theorem J6{c:Expr}{a b:List sb}{Z:TT}(W:PT X c Z)(U:rg X a t)(Y:rg X b u):PS X (.If c a b pos) (Mc Z t u):=by
 intro pins s σ H D I h;refine wpAny_If (dq (W pins s σ H _ I h) λd s1 ⟨H1,I1,q1⟩=>?_);cases d with
 |true=>exact U pins s1 σ H1 D I1 q1
 |false=>exact Y pins s1 σ H1 D I1 q1
end
abbrev TG:=V->St->Hp->(St->Hp->Prop)->Prop
abbrev Eu:=List V->St->Hp->(St->Hp->Prop)->Prop
def PG(X:Cx)(target:Expr)(t:TG):Prop:=
 ∀(pins:List (b_×Obj)) (s:a_) (σ:St) (H:Hp) (v:V) (u:aC) (Q:St->Hp->Prop),Inv X pins σ H s->RelV v u->t v σ H Q->
  d_ (eK X.prog X.w) X.A (RW target X.env u) (λ_ s'=>∃ σ' H',Inv X pins σ' H' s'/\Q σ' H') X.xe s
def Ei(X:Cx)(ts:List Expr)(t:Eu):Prop:=
 ∀(pins:List (b_×Obj)) (s:a_) (σ:St) (H:Hp) (vs:List V) (us:List aC) (Q:St->Hp->Prop),Inv X pins σ H s->bj vs us->t vs σ H Q->
  d_ (eK X.prog X.w) X.A (Sd ((pb ts X.env).map (·.2)) us) (λ_ s'=>∃ σ' H',Inv X pins σ' H' s'/\Q σ' H') X.xe s
abbrev Ew:=V->V->V->Hp->(Hp->Prop)->Prop
def J7(X:Cx)(t:Ew):Prop:=
 ∀(pins:List (b_×Obj)) (s:a_) (σ:St) (H:Hp) (o i v:V) (ov iv u:aC) (Q:Hp->Prop),Inv X pins σ H s->RelV o ov->RelV i iv->RelV v u->t o i v H Q->
  d_ (eK X.prog X.w) X.A (Ua ov iv u) (λ_ s'=>∃H',Inv X pins σ H' s'/\Q H') X.xe s
section
variable {X:Cx}{pos:Pos}
def Bh(i:Nat):TG:=λv σ H Q=>Q (σ.set i (ar v)) H
theorem Ey{i:Nat}{x:Str}(Z:X.N.Nodup)(W:X.N[i]? =ar x)(Y:Loc X.env.scope x)(T:X.fn x=c_\/X.env.scope.names.lookup x=ar .local:=by first|exact .inl rfl|exact .inr rfl|assumption):PG X (.Name x pos) (Bh i):=by intro pins s σ H v u Q I r h;exact wpAny_assign_Name (jx I Z W Y r (λs' U=>⟨_,H,U,h⟩) T)
def Md:Eu:=λvs σ H Q=>vs=[]/\Q σ H
def J8(t:TG)(u:Eu):Eu:=λvs σ H Q=>∃v r,vs=v::r/\t v σ H λσ' H'=>u r σ' H' Q
theorem Ez:Ei X [] Md:=by intro pins s σ H vs us Q I r h;obtain⟨e,h⟩:=h;subst e;cases r;exact assignInOrder_nil ⟨σ,H,I,h⟩
theorem Bi{e:Expr}{es:List Expr}{t:TG}{u:Eu}(Z:PG X e t)(Y:Ei X es u)
  (hs:(pb (e::es) X.env).map (·.2)=RW e X.env::(pb es X.env).map (·.2):=by rfl):Ei X (e::es) (J8 t u):=by
 intro pins s σ H vs us Q I r h;obtain⟨v,W,e1,h⟩:=h;subst e1;cases r with
 |cons r rr=>
  rw[hs];refine QN (dq (Z pins s σ H _ _ _ I r h) λ_ s1 ⟨σ1,H1,I1,q1⟩=>?_);exact Y pins s1 σ1 H1 _ _ Q I1 rr q1
def Me(K:dt)(n:Nat)(t:Eu):TG:=λv σ H Q=>∃a xs,v= .ref a/\lu K H a xs/\xs.length=n/\t xs σ H Q
theorem Hs{es:List Expr}{k:Nat}{t:Eu}{n:Nat}(T:X.calm=c_)(h:Ei X es t)
  (P:(pb es X.env).length=n:=by rfl) (Z:(pb es X.env).findIdx? (·.1)=none:=by rfl):PG X (.Tuple es k pos) (Me X.K n t):=by
 intro pins s σ H v u Q I r hw;obtain⟨a,xs,e1,S,R,hw⟩:=hw;subst e1;cases r;obtain⟨its,Y,W,N⟩:=I.tuple S;refine assign_Tuple_tuple (I.ok.hd T) W (by simp[P, <-R,Y.length]) Z λh' U=>?_;have O:Inv X pins σ H {s with heap:=h'}:=I.kept (t':=s.toks) λb o e=>U b o (NL (Ny e)) e;exact h pins _ σ H xs _ Q O (by simpa using Y) hw
def Mf(to ti:TE)(t:Ew):TG:=λv σ H Q=>to σ H λo H1=>ti σ H1 λi H2=>t o i v H2 λH3=>Q σ H3
theorem Ht{o i:Expr}{Z Y:TE}{t:Ew}(T:PE X o Z)(U:PE X i Y)(hs:J7 X t)
  (W:∀v,RW (.Subscript o i pos) X.env v=(do
   let ov<-J' [v] (g6 o X.env);let iv<-J' [v,ov] (g6 i X.env)
   Tu pos
   J' [v,ov,iv] (Ua ov iv v)
   release [v,ov,iv] []):=by intro _;rfl):PG X (.Subscript o i pos) (Mf Z Y t):=by
 intro pins s σ H v u Q I r h;rw[W];refine Np (Ov (dq (T pins s σ H _ I h) λov s1 ⟨x,H1,I1,r1,q1⟩=>?_));refine Np (Ov (dq (U pins s1 σ H1 _ I1 q1) λiv s2 ⟨y,H2,I2,r2,q2⟩=>?_));refine Np (Rf (Np (Ov (dq (hs pins s2 σ H2 x y v ov iv u _ I2 r1 r2 r q2) λ_ s3 ⟨H3,I3,q3⟩=>?_))));exact wpAny_release ⟨σ,H3,I3,q3⟩
def Hu(te:TE)(g:TG):TS:=λD σ H=>te σ H λx H1=>g x σ H1 D.nx
theorem Hv{Z e:Expr}{te:TE}{g:TG}(U:PE X e te)(Y:PG X Z g)(hs:RA [Z] e pos.line X.env=aw false:=by rfl)(T:RC [Z] e X.env=aw none:=by rfl)
  (W:(pb [Z] X.env).map (·.2)=[RW Z X.env]:=by rfl):PS X (.Assign [Z] e pos) (Hu te g):=by
 intro pins s σ H D I h;refine wpAny_Assign_stores (dq (U pins s σ H _ I h) λv s1 ⟨x,H1,I1,r1,q1⟩=>?_) hs T;rw[W];exact dq (Y pins s1 σ H1 x v _ I1 r1 q1) λ_ s2 q=>q
theorem Bj{i:Nat}{x:Str}{e:Expr}{te:TE}{pos':Pos}(Y:X.N.Nodup)(U:X.N[i]? =ar x)(W:Loc X.env.scope x)(T:PE X e te)(hs:l_ e (ar (.Name x pos')) pos.line X.env=aw false:=by rfl)(S:X.fn x=c_\/X.env.scope.names.lookup x=ar .local:=by first|exact .inl rfl|exact .inr rfl|assumption):
  PS X (.Assign [.Name x pos'] e pos) (Hu te (Bh i)):=by
 intro pins s σ H D I h;refine wpAny_Assign_Name (dq (T pins s σ H _ I h) λv s1 ⟨y,H1,I1,r1,q1⟩=>?_) hs;exact jx I1 Y U W r1 (λs2 Z=>⟨_,H1,Z,q1⟩) S
def Mg(i j:Nat)(ta:TA):TS:=λD σ H=>ta σ H λvs H1=>∃v w,vs=[v,w]/\D.nx ((σ.set i (ar v)).set j (ar w)) H1
theorem Hw{i j:Nat}{x y:Str}{a b:Expr}{O:TA}{S R U:Pos}{kt k2 pt2}(E:X.calm=c_)(L:X.N.Nodup)(C:X.N[i]? =ar x)(n:X.N[j]? =ar y)(T:i≠j)
  (K:X.env.scope.names.lookup x=ar .local) (J:X.env.scope.names.lookup y=ar .local) (r:PA X [a,b] O)
  (u:RC [.Tuple [.Name x S,.Name y R] kt U] (.Tuple [a,b] k2 pt2) X.env=aw (ar [x,y]))
  (hs:RA [.Tuple [.Name x S,.Name y R] kt U] (.Tuple [a,b] k2 pt2) pos.line X.env=aw false:=by rfl):
  PS X (.Assign [.Tuple [.Name x S,.Name y R] kt U] (.Tuple [a,b] k2 pt2) pos) (Mg i j O):=by
 intro pins s σ H D I h;rw[exec_Assign_arm];refine Np (Rf ?_);rw[hs];refine Np (Nv ?_);rw[if_neg (by decide)];refine Np (Tuple_ (dq (r _ pins s σ H _ I h) λus s1 ⟨vs,H1,I1,r1,P⟩=>?_));obtain⟨v,w,e1,P⟩:=P;subst e1;obtain⟨Z,Y,rfl,t,Q⟩:∃Z Y,us=[Z,Y]/\RelV v Z/\RelV w Y:=by
  cases r1 with
  | cons p q=>
   cases q with
   |cons p' q'=>
    cases q';exact⟨_,_,rfl,p,p'⟩
 refine Og ?_ (by show 2<=sizeLine;decide);have F:Inv X pins σ H1 {s1 with heap:=s1.heap.push {cls:=.type "tuple",data:=.seq [Z,Y].toArray}}:=I1.kept (t':=s1.toks) λb o e=>Nq _ e;rw[u];refine Np (Nv ?_);show d_ (eK X.prog X.w) X.A (do rule "assign.swapped-stores";let items<-unpackItems (.ref s1.heap.objs.size) 2 none;Sd [λv=>Sj X.env y v,λv=>Sj X.env x v] items.reverse;aw Flow.next) _ _ _;refine Np (QC (Np (unpackItems_tuple (items:= #[Z,Y]) (I.ok.hd E) (Rq s1.heap _) λh' W=>?_)));have z:=F.kept (h':=h') (t':=s1.toks) λb o e=>W b o (NL (Ny e)) e;show d_ _ _ (Sd [λv=>Sj X.env y v,λv=>Sj X.env x v] [Y,Z]>>=λ_=>aw Flow.next) _ _ _;refine Np (QN (wpAny_bindName (jx z L n (.inl J) Q (λs2 B=>?_) (.inr J))));refine QN (wpAny_bindName (jx B L C (.inl K) t (λs3 G=>assignInOrder_nil (Nv ?_)) (.inr K)));rw[List.set_comm _ _ (j' T)]at G;exact⟨_,H1,G,P⟩
def Hx(c:TT)(tb:TS):TS:=λD σ H=>∃W:Nat->St->Hp->Prop,(∃m,W m σ H)/\∀m σ H,W m σ H->
 c σ H λb H1=>if b=c_ then ∃N:St->Hp->Prop,(∀ σ' H',N σ' H'->∃m',m'<m/\W m' σ' H')/\tb {D with nx:=N,ct:=N,bk:=D.nx} σ H1 else D.nx σ H1
theorem Bk{c:Expr}{body:List sb}{K:TT}{tb:TS}(L:R5 (eK X.prog X.w) X.A X.env X.xe)(G:PT X c K)(J:rg X body tb):PS X (.While c body [] pos) (Hx K tb):=by
 intro pins s σ H D I h;obtain⟨W,⟨m0,F⟩,turn⟩:=h;refine wpAny_While (codeAny_whileLoop (λn s'=>∃ σ' H',Inv X pins σ' H' s'/\W n σ' H') ?_ m0 ⟨σ,H,I,F⟩);rintro n s1 ⟨σ1,H1,I1,w1⟩;refine Pb L (dq (G pins s1 σ1 H1 _ I1 (turn n σ1 H1 w1)) λb s2 ⟨H2,I2,U⟩=>?_);cases b with
 | true=>
  obtain⟨N,O,U⟩:=U;rw[if_pos rfl];refine Pb L (dq (J pins s2 σ1 H2 _ I2 U) λf s3 T=>?_);cases f with
  |next=>
   obtain⟨Z,Y,P,Q⟩:=T;obtain⟨S,hm,R⟩:=O Z Y Q;exact⟨S,hm,Z,Y,P,R⟩
  |cont=>
   obtain⟨Z,Y,P,Q⟩:=T;obtain⟨S,hm,R⟩:=O Z Y Q;exact⟨S,hm,Z,Y,P,R⟩
  |brk=>exact T
  |ret v=>exact T
 |false=>
  rw[if_neg OS];exact Pp ⟨σ1,H2,I2,U⟩
end
structure It where
 go:Nat->Hp->Prop
 yld:Nat->Hp->V->Hp->Prop
 stop:Nat->Hp->Prop
def lz(X:Cx)(pins:List (b_×Obj))(H:Hp)(b:b_):Prop:=
 H b=none/\b≠X.env.locals/\b∉X.fs/\(b∈X.ex\/X.s₀.heap.objs.size<=b)/\(∀x c,X.env.cells.lookup x=ar c->c≠b)/\∀p∈X.pn++pins,p.1≠b
theorem Inv.fpOk{X:Cx}{Z:List (b_×Obj)}{S:St}{H W:Hp}{s:a_}{b:b_}(I:Inv X Z S H s)(Y:s.heap.objs.size<=b)(T:W b=none):lz X Z W b:=by
 refine⟨T,O3 (NK I.lt Y),I.nofs Y,.inr (Nz I.sz Y),λx c e z=>?_,λp U z=>?_⟩
 ·obtain⟨v,q⟩:=I.cell x c e;exact absurd (NK q.lt (by rw[z];exact Y)) (OV _)
 ·exact absurd (NK (Ny (I.pin p U).1) (by rw[z];exact Y)) (OV _)
structure Turn(P:eb)(w:er)(K:dt)(tg:Expr)(J:It)(fp:List b_)(it:b_)(tn:Nat->fg->Prop):Prop where
 mem:it∈fp
 obj:∀i h,tn i h->∀b∈fp,∃o,h.get? b=ar o/\∀v,o.data≠ .cell v
 keep:∀i h h',tn i h->(∀b∈fp,∀o,h.get? b=ar o->h'.get? b=ar o)->tn i h'
 item:∀(X:Cx),X.prog=P->X.w=w->X.K=K->X.calm=c_->∀(i:Nat) (pins:List (b_×Obj)) (s:a_) (σ:St) (H:Hp) (E:aC->a_->Prop),Inv X pins σ H s->(∀b∈fp,lz X pins H b)->tn i s.heap->J.go i H->
  d_ (eK P w) X.A (L0 (.ref it)) (λr s1=>∃u,r=ar u/\
   d_ (eK P w) X.A (RP tg (.ref it) u) (λ_ s2=>∃x H',Inv X pins σ H' s2/\RelV x u/\J.yld i H x H'/\tn (i+1) s2.heap/\∀b∈fp,H' b=none) E s1) E s
 done:∀(X:Cx),X.prog=P->X.w=w->X.K=K->X.calm=c_->∀(i:Nat) (pins:List (b_×Obj)) (s:a_) (σ:St) (H:Hp) (E:aC->a_->Prop),Inv X pins σ H s->(∀b∈fp,lz X pins H b)->tn i s.heap->J.stop i H->
  d_ (eK P w) X.A (L0 (.ref it)) (λr s1=>r=none/\Inv X pins σ H s1) E s
 self:∀(A:g_) (i:Nat) (s:a_) (Q:aC->a_->Prop) (E:aC->a_->Prop),tn i s.heap->Q (.ref it) s->d_ (eK P w) A (SW (.ref it)) Q E s
abbrev TI:=St->Hp->(It->Hp->Prop)->Prop
def MR(X:Cx)(pins:List (b_×Obj))(σ:St)(tg:Expr)(R:It->Hp->Prop)(itv:aC)(s2:a_):Prop:=
 ∃(it:b_) (fp:List b_) (tn:Nat->fg->Prop) (J:It) (H':Hp),itv= .ref it/\Inv X pins σ H' s2/\Turn X.prog X.w X.K tg J fp it tn/\tn 0 s2.heap/\(∀b∈fp,lz X pins H' b)/\R J H'
def PI(X:Cx)(tg iter:Expr)(wi:TI):Prop:=
 ∀(pins:List (b_×Obj)) (s:a_) (σ:St) (H:Hp) (R:It->Hp->Prop),Inv X pins σ H s->wi σ H R->
  d_ (eK X.prog X.w) X.A (g6 iter X.env) (λv s1=>d_ (eK X.prog X.w) X.A (SW v) (MR X pins σ tg R) X.xe s1) X.xe s
theorem ye{M:SK}{A:g_}{E:aC->a_->Prop}{s:a_}{Y:Expr}{it:b_}{u:aC}{o:Obj}{n:String}{vs:Array aC}{Q:Unit->a_->Prop}(U:s.heap.get? it=ar o)(X:o.cls= .type n)(T:o.data= .fields vs)
    (W:["enumerate","zip","dict_itemiterator","dict_reverseitemiterator","odict_iterator","itertools.zip_longest","itertools.pairwise"].contains n=dr) (Z:Q () s):d_ M A (RP Y (.ref it) u) Q E s:=by
  unfold RP;cases Y <;>first
    |exact Nv Z
    |(cases u<;>first
        |exact Nv Z
        | (refine Np (wpAny_load U ?_)
           rw[X,T];show d_ M A (if (["enumerate","zip","dict_itemiterator","dict_reverseitemiterator","odict_iterator","itertools.zip_longest","itertools.pairwise"].contains n && vs[0]? ==ar (mv _))=c_ then _ else _) Q E s;rw[if_neg (by intro h;rw[W,Pj]at h;cases h)];exact Nv Z))
def LC(K:dt)(a:b_):It:=
 ⟨λi H=>∃xs x,jz K H a xs/\xs[i]? =ar x,λi H x H'=>H'=H/\∀xs,jz K H a xs->xs[i]? =ar x,λi H=>∃xs,jz K H a xs/\xs.length<=i⟩
def Mh(K:dt)(a:b_):It:=
 ⟨λi H=>∃xs x,lu K H a xs/\xs[i]? =ar x,λi H x H'=>H'=H/\∀xs,lu K H a xs->xs[i]? =ar x,λi H=>∃xs,lu K H a xs/\xs.length<=i⟩
def J9(lo:Int)(n:Nat):It:=⟨λi _=>i<n,λi H x H'=>H'=H/\x= .int (lo+i),λi _=>n<=i⟩
theorem zR{P:eb}{w:er}{K:dt}{r:Expr}(a it:b_):Turn P w K r (LC K a) [it] it (λi h=>h.IsListIter it a i) where
 mem:=by simp
 obj:=λi h st b Z=>by
  have e:b=it:=by simpa using Z
  subst e;obtain⟨o,e,c,d⟩:=st;exact⟨o,e,λv z=>by rw[d]at z;cases z⟩
 keep:=λi h h' st k=>st.at λo e=>k it (by simp) o e
 item:=by intro X S hw L J i pins s σ H E I hf st Q;subst S hw L;obtain⟨xs,x,U,N⟩:=Q;obtain⟨its,O,p,A⟩:=I.list U;obtain⟨u,F,G⟩:=O.get N;obtain⟨f0,f1,f2,R,f4,T⟩:=hf it (by simp);refine wpAny_pyNext_list_item st p.isList (x:=u) (by simpa using F) λh' Y C=>?_;have B:Inv X pins σ H {s with heap:=h'}:=I.turned (t':=s.toks) (λb o Z e=>(C.2 b Z).trans e) f0 f1 R f4 T;obtain⟨o,e,c,d⟩:=id Y;exact⟨u,rfl,ye (s:={s with heap:=h'}) e c d (by decide) ⟨x,H,B,G,⟨rfl,λys y=>by rw[I.list_inj y U];exact N⟩,Y,λb Z=>(hf b Z).1⟩⟩
 done:=by intro X S hw L J i pins s σ H E I hf st Q;subst S hw L;obtain⟨xs,U,N⟩:=Q;obtain⟨its,O,p,A⟩:=I.list U;obtain⟨f0,f1,f2,R,f4,T⟩:=hf it (by simp);have q:=O.length;exact wpAny_pyNext_list_end (I.ok.hd J) st p.isList (by simp;omega) λh' t=>⟨rfl,I.turned (t':=s.toks) (λb o Z e=>t b o Z e) f0 f1 R f4 T⟩
 self:=λ_ _ _ _ _ st h=>wpAny_pyIter_listiter st h
theorem wL{P:eb}{w:er}{K:dt}{r:Expr}(a it:b_):Turn P w K r (Mh K a) [it] it (λi h=>h.IsTupleIter it a i) where
 mem:=by simp
 obj:=λi h st b Z=>by
  have e:b=it:=by simpa using Z
  subst e;obtain⟨o,e,c,d⟩:=st;exact⟨o,e,λv z=>by rw[d]at z;cases z⟩
 keep:=λi h h' st k=>st.at λo e=>k it (by simp) o e
 item:=by intro X S hw L J i pins s σ H E I hf st Q;subst S hw L;obtain⟨xs,x,U,N⟩:=Q;obtain⟨its,O,p,A⟩:=I.tuple U;obtain⟨u,F,G⟩:=O.get N;obtain⟨f0,f1,f2,R,f4,T⟩:=hf it (by simp);refine wpAny_pyNext_tuple_item st (show s.heap.IsTuple a its.toArray from p) (x:=u) (by simpa using F) λh' Y C=>?_;have B:Inv X pins σ H {s with heap:=h'}:=I.turned (t':=s.toks) (λb o Z e=>(C.2 b Z).trans e) f0 f1 R f4 T;obtain⟨o,e,c,d⟩:=id Y;exact⟨u,rfl,ye (s:={s with heap:=h'}) e c d (by decide) ⟨x,H,B,G,⟨rfl,λys y=>by rw[I.tuple_inj y U];exact N⟩,Y,λb Z=>(hf b Z).1⟩⟩
 done:=by intro X S hw L J i pins s σ H E I hf st Q;subst S hw L;obtain⟨xs,U,N⟩:=Q;obtain⟨its,O,p,A⟩:=I.tuple U;obtain⟨f0,f1,f2,R,f4,T⟩:=hf it (by simp);have q:=O.length;exact wpAny_pyNext_tuple_end (I.ok.hd J) st (show s.heap.IsTuple a its.toArray from p) (by simp;omega) λh' t=>⟨rfl,I.turned (t':=s.toks) (λb o Z e=>t b o Z e) f0 f1 R f4 T⟩
 self:=λ_ _ _ _ _ st h=>wpAny_pyIter_tupleiter st h
theorem wM{P:eb}{w:er}{K:dt}{B:Expr}(it:b_)(U:Int)(n:Nat):Turn P w K B (J9 U n) [it] it (λi h=>IsRangeIter h it (U+(i:Nat)*1) ((n:Int) - (i:Nat)) 1) where
 mem:=by simp
 obj:=λi h st b Z=>by
  have e:b=it:=by simpa using Z
  subst e;exact⟨_,st,λv z=>by have G:Data.fields _=Data.cell v:=z;cases G⟩
 keep:=λi h h' st k=>k it (by simp) _ st
 item:=by intro X R hw N S i pins s σ H E I hf st O;subst R hw N;obtain⟨f0,f1,f2,Q,f4,T⟩:=hf it (by simp);have W:=Walks.range (prog:=X.prog) (w:=X.w) (I.ok.hd S) it U 1 n;refine W.item i s _ _ O st λv h' L A Y J=>?_;obtain⟨t,rfl⟩:=A;have F:Inv X pins σ H {s with heap:=h',toks:=L}:=I.turned (λb o Z e=>J b o (by simpa using Z) e) f0 f1 Q f4 T;refine⟨_,rfl,ye (s:={s with heap:=h',toks:=L}) (n:="range_iterator") Y rfl rfl (by decide) ⟨.int (U+i),H,F,⟨t,?_⟩,⟨rfl,rfl⟩,Y,λb Z=>(hf b Z).1⟩⟩;rw[Int.mul_one]
 done:=by intro X R hw N S i pins s σ H E I hf st O;subst R hw N;obtain⟨f0,f1,f2,Q,f4,T⟩:=hf it (by simp);exact wpAny_pyNext_range_end (I.ok.hd S) st (by have:n<=i:=O;omega) λh' C=>⟨rfl,I.turned (t':=s.toks) (λb o Z e=>C b o Z e) f0 f1 Q f4 T⟩
 self:=λ_ _ _ _ _ st h=>wpAny_pyIter_rangeiter st h
section
variable {X:Cx}{tg:Expr}
def Ka(K:dt)(tl:TE):TI:=λσ H R=>tl σ H λx H1=>∃a,x= .ref a/\(∃xs,jz K H1 a xs)/\R (LC K a) H1
def Mi(K:dt)(tl:TE):TI:=λσ H R=>tl σ H λx H1=>∃a,x= .ref a/\(∃xs,lu K H1 a xs)/\R (Mh K a) H1
theorem lA{l:Expr}{tl:TE}(W:PE X l tl):PI X tg l (Ka X.K tl):=by
 intro pins s σ H R I h;refine dq (W pins s σ H _ I h) λv s1 ⟨x,H1,I1,r1,q1⟩=>?_;obtain⟨a,e,⟨xs,Y⟩,q⟩:=q1;subst e;cases r1;obtain⟨its,U,p,T⟩:=I1.list Y;refine Q0 p.isList ?_;refine⟨s1.heap.objs.size,[s1.heap.objs.size],_,_,H1,rfl,I1.kept (t':=s1.toks) λb o e=>Nq _ e,zR a _,⟨_,NA _ rfl,rfl,rfl⟩,λb Z=>?_,q⟩;have e:b=s1.heap.objs.size:=by simpa using Z
 subst e;exact I1.fpOk (Nu _) (I1.hok.fresh (Nu _))
theorem Hy{l:Expr}{tl:TE}(W:PE X l tl):PI X tg l (Mi X.K tl):=by
 intro pins s σ H R I h;refine dq (W pins s σ H _ I h) λv s1 ⟨x,H1,I1,r1,q1⟩=>?_;obtain⟨a,e,⟨xs,Y⟩,q⟩:=q1;subst e;cases r1;obtain⟨its,U,p,T⟩:=I1.tuple Y;refine PU (show s1.heap.IsTuple a its.toArray from p) ?_;refine⟨s1.heap.objs.size,[s1.heap.objs.size],_,_,H1,rfl,I1.kept (t':=s1.toks) λb o e=>Nq _ e,wL a _,⟨_,NA _ rfl,rfl,rfl⟩,λb Z=>?_,q⟩;have e:b=s1.heap.objs.size:=by simpa using Z
 subst e;exact I1.fpOk (Nu _) (I1.hok.fresh (Nu _))
theorem uW{W:List (b_×Obj)}{T:St}{H:Hp}{s:a_}{R:It->Hp->Prop}{E:aC->a_->Prop}{Z Y:Int}{t u v:Tok}{U:Nat}(I:Inv X W T H s)(P: -(2 ^ 62)<=Z)(L:Z<2 ^ 62)(N: -(2 ^ 62)<=Y)(O:Y<2 ^ 62)
  (q:R (J9 Z (Y - Z).toNat) H):d_ (eK X.prog X.w) X.A (SW (.ref s.heap.objs.size)) (MR X W T tg R) E {s with heap:=s.heap.push {cls:=.type "range",data:=.fields #[.int Z t,.int Y u,.int 1 v]},toks:=U}:=by
 refine wpAny_pyIter_range (IsRange.new ..) (small_one P L N O) ?_;have S:Inv X W T H {s with heap:=s.heap.push {cls:=.type "range",data:=.fields #[.int Z t,.int Y u,.int 1 v]},toks:=U}:=I.kept λb o e=>Nq _ e;refine⟨(s.heap.push {cls:=.type "range",data:=.fields #[.int Z t,.int Y u,.int 1 v]}).objs.size,[(s.heap.push {cls:=.type "range",data:=.fields #[.int Z t,.int Y u,.int 1 v]}).objs.size],_,_,H,rfl,
  S.kept (t':=U) λb o e=>Nq _ e,wM _ Z (Y - Z).toNat,?_,λb Q=>?_,q⟩
 ·have e1:Z+((0:Nat):Int)*1=Z:=by simp
  have e2:(((Y - Z).toNat:Nat):Int) - ((0:Nat):Int)=Builtin.Range.rangeSize Z Y 1:=by rw[rangeSize_one];split<;>omega
  show IsRangeIter _ _ (Z+((0:Nat):Int)*1) ((((Y - Z).toNat:Nat):Int) - ((0:Nat):Int)) 1;rw[e1,e2];exact NA _ rfl
 ·have e:b=(s.heap.push {cls:=.type "range",data:=.fields #[.int Z t,.int Y u,.int 1 v]}).objs.size:=by simpa using Q
  subst e;exact S.fpOk (Nu _) (S.hok.fresh (Nu _))
def Kb(ta:TA):TI:=λσ H R=>ta σ H λvs H1=>∃j:Int,vs=[.int j]/\ -(2 ^ 62)<=j/\j<2 ^ 62/\R (J9 0 j.toNat) H1
def Kc(ta:TA):TI:=λσ H R=>ta σ H λvs H1=>∃i j:Int,vs=[.int i,.int j]/\(-(2 ^ 62)<=i/\i<2 ^ 62/\ -(2 ^ 62)<=j/\j<2 ^ 62)/\R (J9 i (j - i).toNat) H1
theorem zS{a:Expr}{Y:TA}{p pos:Pos}(W:Gl X "range")(U:X.mg "range"=none)(S:PA X [a] Y)(hs:dV [a] X.env=[(dr,g6 a X.env)]:=by rfl):PI X tg (.Call (.Name "range" p) [a] [] pos) (Kb Y):=by
 intro pins s σ H R I h;refine Call_ (mL I W U boot_range (OY (dq (S pos pins s σ H _ I h) λus s1 ⟨vs,H1,I1,r1,Z⟩=>?_) hs rfl));obtain⟨j,e,Z,T,q⟩:=Z;subst e;cases r1 with
 |cons r rr=>
  cases rr;obtain⟨t,rfl⟩:=r;exact call_range_1 (uW I1 (by omega) (by omega) Z T (by simpa using q))
theorem zT{a b:Expr}{W:TA}{p pos:Pos}(U:Gl X "range")(T:X.mg "range"=none)(P:PA X [a,b] W)(hs:dV [a,b] X.env=[(dr,g6 a X.env),(dr,g6 b X.env)]:=by rfl)(Z:dV [b] X.env=[(dr,g6 b X.env)]:=by rfl):
  PI X tg (.Call (.Name "range" p) [a,b] [] pos) (Kc W):=by
 intro pins s σ H R I h;refine Call_ (mL I U T boot_range (OY (dq (P pos pins s σ H _ I h) λus s1 ⟨vs,H1,I1,r1,Y⟩=>?_) (by rw[hs,Z]) (by rw[Z];rfl)));obtain⟨i,j,e,⟨Y,S,O,Q⟩,q⟩:=Y;subst e;cases r1 with
 | cons r rr=>
  cases rr with
  |cons r' rr=>
   cases rr;obtain⟨t,rfl⟩:=r;obtain⟨t',rfl⟩:=r';exact call_range_2 (uW I1 Y S O Q q)
def Mj(wi:TI)(g:TG)(tb:TS):TS:=λD σ H=>wi σ H λJ H1=>∃W:Nat->Nat->St->Hp->Prop,(∃m,W 0 m σ H1)/\∀i m σ H,W i m σ H->
 (J.stop i H/\D.nx σ H)\/(J.go i H/\∃N:St->Hp->Prop,(∀ σ' H',N σ' H'->∃m',m'<m/\W (i+1) m' σ' H')/\∀x H',J.yld i H x H'->g x σ H' λσ2 H2=>tb {D with nx:=N,ct:=N,bk:=D.nx} σ2 H2)
def oR(fp:List b_)(h:fg):List (b_×Obj):=fp.filterMap λb=>(h.get? b).map λo=>(b,o)
theorem i5{Z:List b_}{h:fg}{b:b_}{o:Obj}(Y:b∈Z)(e:h.get? b=ar o):(b,o)∈oR Z h:=OR.mpr ⟨b,Y,by rw[e];rfl⟩
theorem zU{Z:List b_}{h:fg}{p:b_×Obj}(W:p∈oR Z h):p.1∈Z/\h.get? p.1=ar p.2:=by
 obtain⟨b,Y,e⟩:=OR.mp W;cases q:h.get? b with
 |none=>rw[q]at e;cases e
 |some o=>
  rw[q]at e;have U:(b,o)=p:=NW e;subst U;exact⟨Y,q⟩
theorem Inv.pinned{Z:List (b_×Obj)}{T:St}{H:Hp}{s:a_}{Y:List b_}(I:Inv X Z T H s)(Q:∀b∈Y,lz X Z H b)(R:∀b∈Y,∃o,s.heap.get? b=ar o/\∀v,o.data≠ .cell v):Inv X (Z++oR Y s.heap) T H s:=
 I.pins_of λp S=>(Oi.mp S).elim (λz=>I.pin p (NS _ z)) λz=>by obtain⟨W,e⟩:=zU z;obtain⟨f0,f1,f2,_⟩:=Q p.1 W;obtain⟨o,U,d⟩:=R p.1 W;rw[e]at U;cases U;exact⟨e,f0,f1,f2,d⟩
theorem Inv.unpinned{Z W:List (b_×Obj)}{Y:St}{H:Hp}{s:a_}(I:Inv X (Z++W) Y H s):Inv X Z Y H s:=I.pins_of λp U=>I.pin p (NS _ (O9 _ U))
theorem Hz{S:Expr}{body:List sb}{z:TI}{g:TG}{tb:TS}{pos:Pos}(L:R5 (eK X.prog X.w) X.A X.env X.xe)(C:X.calm=c_)(p:PI X tg S z)(l:PG X tg g)(Y:rg X body tb)
  (hs:∀x,n7 S X.env x=aw x:=by intro _;rfl):PS X (.For tg S body [] pos) (Mj z g tb):=by
 intro pins s σ H D I h;refine wpAny_For (dq (p pins s σ H _ I h) λv s1 j=>dq j λc s2 h2=>?_) hs;obtain⟨it,O,B,J,y,e,t,T,G,f2,W,⟨m0,w0⟩,turn⟩:=h2;subst e;have Q:∀{H':Hp},(∀b∈O,H' b=none)->∀b∈O,lz X pins H' b:=λhn b Y=>⟨hn b Y,(f2 b Y).2⟩;refine codeAny_forLoop_any (λn s'=>∃i σ' H',Inv X pins σ' H' s'/\B i s'.heap/\(∀b∈O,H' b=none)/\W i n σ' H') ?_ m0 ⟨0,σ,y,t,G,λb Y=>(f2 b Y).1,w0⟩;rintro n s3 ⟨i,σ3,H3,I3,st3,fr3,w3⟩;rcases turn i n σ3 H3 w3 with⟨stop,qn⟩|⟨go,N,hN,step⟩
 ·refine Pb L (dq (T.done X rfl rfl rfl C i pins s3 σ3 H3 X.xe I3 (Q fr3) st3 stop) λr s4 ⟨hr,I4⟩=>?_);subst hr;exact Pp ⟨σ3,H3,I4,qn⟩
 ·refine Pb L (dq (T.item X rfl rfl rfl C i pins s3 σ3 H3 X.xe I3 (Q fr3) st3 go) λr s4 ⟨u,hr,h4⟩=>?_);subst hr;refine Pb L (dq h4 λ_ s5 ⟨x,H5,I5,r5,y5,st5,fr5⟩=>?_);have E:=I5.pinned (Q fr5) (T.obj _ _ st5);refine Pb L (dq (l _ s5 σ3 H5 x u _ E r5 (step x H5 y5)) λ_ s6 ⟨σ6,H6,I6,q6⟩=>?_);refine Pb L (dq (Y _ s6 σ6 H6 _ I6 q6) λf F P=>?_);have SX:∀{Z:St} {R:Hp},Inv X (pins++oR O s5.heap) Z R F->N Z R->∃m,m<n/\∃i σ' H',Inv X pins σ' H' F/\B i F.heap/\(∀b∈O,H' b=none)/\W i m σ' H':=λ{Z R} U K=>by
   obtain⟨k,hm,q⟩:=hN Z R K;refine⟨k,hm,i+1,Z,R,U.unpinned,T.keep _ _ _ st5 λb Y o e=>(U.pin (b,o) (NS _ (NS _ (i5 Y e)))).1,λb Y=>?_,q⟩;obtain⟨o,e,d⟩:=T.obj _ _ st5 b Y;exact(U.pin (b,o) (NS _ (NS _ (i5 Y e)))).2.1
  cases f with
  |next=>obtain⟨Z,R,U,K⟩:=P;exact SX U K
  |cont=>obtain⟨Z,R,U,K⟩:=P;exact SX U K
  |brk=>obtain⟨Z,R,U,P⟩:=P;exact⟨Z,R,U.unpinned,P⟩
  |ret v=>obtain⟨x7,Z,R,U,a,P⟩:=P;exact⟨x7,Z,R,U.unpinned,a,P⟩
end
abbrev R2:=V->V->Hp->VK->Prop
def gv(X:Cx)(f:aC->aC->Sem aC)(r:R2):Prop:=
 ∀(pins:List (b_×Obj)) (s:a_) (σ:St) (H:Hp) (x y:V) (v u:aC) (Q:VK),Inv X pins σ H s->RelV x v->RelV y u->r x y H Q->
  d_ (eK X.prog X.w) X.A (f v u) (EP X pins σ Q) X.xe s
def Ml(X:Cx)(f:aC->Sem aC)(r:V->Hp->VK->Prop):Prop:=
 ∀(pins:List (b_×Obj)) (s:a_) (σ:St) (H:Hp) (x:V) (v:aC) (Q:VK),Inv X pins σ H s->RelV x v->r x H Q->
  d_ (eK X.prog X.w) X.A (f v) (EP X pins σ Q) X.xe s
def cY(X:Cx)(f:aC)(r:List V->Hp->VK->Prop):Prop:=
 ∀(pins:List (b_×Obj)) (s:a_) (σ:St) (H:Hp) (xs:List V) (us:List aC) (Q:VK),Inv X pins σ H s->bj xs us->r xs H Q->
  d_ (eK X.prog X.w) X.A (call f us) (EP X pins σ Q) X.xe s
def Kd(r:R2)(ta tb:TE):TE:=λσ H Q=>ta σ H λx H1=>tb σ H1 λy H2=>r x y H2 Q
def M6(r:V->Hp->VK->Prop)(ta:TE):TE:=λσ H Q=>ta σ H λx H1=>r x H1 Q
def rI(C:Int->Int->Prop)(g:Int->Int->V):R2:=λx y H Q=>∃i j,x= .int i/\y= .int j/\C i j/\Q (g i j) H
def Ej(g:Int->Int->V):R2:=λx y H Q=>∃i j,x= .int i/\y= .int j/\Q (g i j) H
def rU(g:Int->V):V->Hp->VK->Prop:=λx H Q=>∃i,x= .int i/\Q (g i) H
section
variable {X:Cx}{a b c:Expr}{ta tb tc:TE}{pos:Pos}
theorem HA(O:PE X a ta)(P:PE X b tb){Z:List (b_×Obj)}{s:a_}{W:St}{H:Hp}{R:V->V->Hp->Prop}(I:Inv X Z W H s)
  (h:ta W H λx S=>tb W S λy Y=>R x y Y) {Q:aC->a_->Prop} {f:aC->aC->Sem aC}
  (N:∀v u s2 x y Y,Inv X Z W Y s2->RelV x v->RelV y u->R x y Y->d_ (eK X.prog X.w) X.A (f v u) Q X.xe s2):
  d_ (eK X.prog X.w) X.A (g6 a X.env) (λv U=>d_ (eK X.prog X.w) X.A (g6 b X.env) (λu T=>d_ (eK X.prog X.w) X.A (f v u) Q X.xe T) X.xe U) X.xe s:=by
 refine dq (O Z s W H _ I h) λv s1 ⟨x,S,I1,r1,q1⟩=>?_;refine dq (P Z s1 W S _ I1 q1) λu s2 ⟨y,Y,I2,r2,q2⟩=>?_;exact N v u s2 x y Y I2 r1 r2 q2
theorem Ke{op:Operator}{r:R2}(T:gv X (t_ op) r)(U:PE X a ta)(Z:PE X b tb):PE X (.BinOp a op b pos) (Kd r ta tb):=by intro pins s σ H Q I h;exact wpAny_BinOp (HA U Z I h λv u s2 x y Y W R S q=>T pins s2 σ Y x y v u Q W R S q)
theorem Kf{op:UnaryOp}{r:V->Hp->VK->Prop}(Z:Ml X (unaryOp op) r)(Y:PE X a ta):PE X (.UnaryOp op a pos) (M6 r ta):=by intro pins s σ H Q I h;exact UnaryOp_ (dq (Y pins s σ H _ I h) λv s1 ⟨x,H1,I1,r1,q1⟩=>Z pins s1 σ H1 x v Q I1 r1 q1)
theorem LD{f:aC->aC->Sem aC}{C:Int->Int->Prop}{g:Int->Int->Int}
  (Z:∀(i j:Int) (t u:Tok) (s:a_) (Q:aC->a_->Prop) (E:aC->a_->Prop),C i j->Q (.int (g i j) s.toks) {s with toks:=s.toks+1}->d_ (eK X.prog X.w) X.A (f (.int i t) (.int j u)) Q E s):
  gv X f (rI C λi j=>.int (g i j)):=by
 intro pins s σ H x y v u Q I U W h;obtain⟨i,j,rfl,rfl,Y,q⟩:=h;obtain⟨t,rfl⟩:=U;obtain⟨t',rfl⟩:=W;exact Z i j t t' s _ _ Y ⟨.int (g i j),H,I.tok _,⟨_,rfl⟩,q⟩
theorem Kg{f:aC->aC->Sem aC}{g:Int->Int->Int}
  (Z:∀(i j:Int) (t u:Tok) (s:a_) (Q:aC->a_->Prop) (E:aC->a_->Prop),Q (.int (g i j) s.toks) {s with toks:=s.toks+1}->d_ (eK X.prog X.w) X.A (f (.int i t) (.int j u)) Q E s):
  gv X f (Ej λi j=>.int (g i j)):=by
 intro pins s σ H x y v u Q I W Y h;obtain⟨i,j,rfl,rfl,q⟩:=h;obtain⟨t,rfl⟩:=W;obtain⟨t',rfl⟩:=Y;exact Z i j t t' s _ _ ⟨.int (g i j),H,I.tok _,⟨_,rfl⟩,q⟩
theorem EB{f:aC->aC->Sem aC}{g:Int->Int->Bool}
  (Z:∀(i j:Int) (t u:Tok) (s:a_) (Q:aC->a_->Prop) (E:aC->a_->Prop),Q (.bool (g i j)) s->d_ (eK X.prog X.w) X.A (f (.int i t) (.int j u)) Q E s):
  gv X f (Ej λi j=>.bl (g i j)):=by
 intro pins s σ H x y v u Q I W Y h;obtain⟨i,j,rfl,rfl,q⟩:=h;obtain⟨t,rfl⟩:=W;obtain⟨t',rfl⟩:=Y;exact Z i j t t' s _ _ ⟨.bl (g i j),H,I,rfl,q⟩
def zV(i j:Int):Prop:=0<j/\j<1073741824
def EC(i j:Int):Prop:=0<=j/\j<=1000000/\i.natAbs<2 ^ 64
def wN(i j:Int):Prop:=(-(2 ^ 64)<i/\i<2 ^ 64)\/(-(2 ^ 64)<j/\j<2 ^ 64)
theorem wN.ok{i j:Int}(h:wN i j):IntMulOk i j:=by
 rcases h with⟨h1,h2⟩|⟨h1,h2⟩
 ·exact .of_left (intBits_le_64 h1 h2)
 ·exact .of_right (intBits_le_64 h1 h2)
theorem HB:gv X (t_ .Add) (Ej λi j=>.int (i+j)):=Kg λ_ _ _ _ _ _ _ q=>add_int q
theorem HC:gv X (t_ .Sub) (Ej λi j=>.int (i - j)):=Kg λ_ _ _ _ _ _ _ q=>sub_int q
theorem HD:gv X (t_ .Mult) (rI wN λi j=>.int (i*j)):=LD λ_ _ _ _ _ _ _ Z q=>mul_int q Z.ok
theorem ED:gv X (t_ .FloorDiv) (rI zV λi j=>.int (i / j)):=LD λi j _ _ _ _ _ Z q=>by have Y:(0:Int)<j:=Z.1;have W:j<1073741824:=Z.2;exact floordiv_int (by omega) (by rw[Int.fdiv_eq_ediv_of_nonneg i (by omega)];exact q) (.inl (PyProof.noPylong_small (by omega)))
theorem HE:gv X (t_ .Mod) (rI (λ_ j=>0<j) λi j=>.int (i % j)):=LD λi j _ _ _ _ _ Z q=>by have Y:(0:Int)<j:=Z;exact mod_int' (by omega) (by rw[Int.fmod_eq_emod_of_nonneg i (by omega)];exact q)
theorem HF:gv X (t_ .Pow) (rI EC λi j=>.int (i ^ j.toNat)):=LD λ_ _ _ _ _ _ _ Z q=>pow_int_small Z.1 Z.2.1 Z.2.2 q
theorem M7{f:aC->Sem aC}{g:Int->Int}
  (Z:∀(i:Int) (t:Tok) (s:a_) (Q:aC->a_->Prop) (E:aC->a_->Prop),Q (.int (g i) s.toks) {s with toks:=s.toks+1}->d_ (eK X.prog X.w) X.A (f (.int i t)) Q E s):
  Ml X f (rU λi=>.int (g i)):=by
 intro pins s σ H x v Q I Y h;obtain⟨i,rfl,q⟩:=h;obtain⟨t,rfl⟩:=Y;exact Z i t s _ _ ⟨.int (g i),H,I.tok _,⟨_,rfl⟩,q⟩
theorem HG:Ml X (unaryOp .USub) (rU λi=>.int (-i)):=M7 λ_ _ _ _ _ q=>neg_int q
theorem Bl{Z:List (b_×Obj)}{Y:St}{H:Hp}{s:a_}{Q:VK}{k W:Bool}(I:Inv X Z Y H s)(q:Q (.bl k) H)(e:k=W):EP X Z Y Q (.bool W) s:=by subst e;exact⟨.bl k,H,I,rfl,q⟩
theorem uX:gv X (ip .Lt) (Ej λi j=>.bl (decide (i<j))):=EB λ_ _ _ _ _ _ _ q=>lt_int q
theorem nA:gv X (ip .LtE) (Ej λi j=>.bl (decide (i<=j))):=EB λ_ _ _ _ _ _ _ q=>le_int q
theorem Kh:gv X (ip .Gt) (Ej λi j=>.bl (decide (j<i))):=EB λ_ _ _ _ _ _ _ q=>gt_int q
theorem Ki:gv X (ip .GtE) (Ej λi j=>.bl (decide (j<=i))):=EB λ_ _ _ _ _ _ _ q=>ge_int q
theorem zW:gv X (ip .In) (λx y H Q=>∃i j,x= .str i/\y= .str j/\Q (.bl (!(i_ j i 0 j.length 1).isEmpty)) H):=by intro pins s σ H x y v u Q I Y Z h;obtain⟨i,j,rfl,rfl,q⟩:=h;obtain⟨t,rfl⟩:=Y;obtain⟨t',rfl⟩:=Z;exact in_str (Bl I q rfl)
theorem HH:gv X (ip .Is) (λx y H Q=>y= .non/\Q (.bl (decide (x= .non))) H):=by
 intro pins s σ H x y v u Q I Z Y h;obtain⟨rfl,q⟩:=h;cases Y;refine is_none_gen (Bl I q ?_);cases x<;>first
  |(cases Z;rfl)
  |(obtain⟨t,rfl⟩:=Z;rfl)
theorem gv.or{f:aC->aC->Sem aC}{r Z:R2}(h:gv X f r)(h':gv X f Z):gv X f (λx y H Q=>r x y H Q\/Z x y H Q):=by
 intro pins s σ H x y v u Q I W Y q;rcases q with q|q
 ·exact h pins s σ H x y v u Q I W Y q
 ·exact h' pins s σ H x y v u Q I W Y q
theorem Mm(b:Expr){op:TH}(h:op≠ .In:=by decide)(Z:op≠ .NotIn:=by decide):ly op b=false:=by
 have e1:(op==CmpOp.In)=false:=by cases op<;>first|rfl|exact absurd rfl h
 have e2:(op==CmpOp.NotIn)=false:=by cases op<;>first|rfl|exact absurd rfl Z
 cases b<;>simp[ly,e1,e2]
theorem EE{op:TH}{r:R2}(S:gv X (ip op) r)(T:PE X a ta)(Z:PE X b tb)(Y:ly op b=dr):PE X (.Compare a [op] [b] pos) (Kd r ta tb):=by intro pins s σ H Q I h;exact wpAny_Compare1 (HA T Z I h λv u s2 x y W U P R q=>S pins s2 σ W x y v u Q U P R q) Y
def Gw(t:TE):TT:=λσ H Q=>t σ H λx H'=>∃k,x= .bl k/\Q k H'
theorem EF{op:TH}{r:R2}(W:gv X (ip op) r)(U:PE X a ta)(Z:PE X b tb)(Y:ly op b=dr):PT X (.Compare a [op] [b] pos) (Gw (Kd r ta tb)):=by
 intro pins s σ H Q I h;refine wpAny_isTrue_Compare1 (dq (U pins s σ H _ I h) λv s1 ⟨x,H1,I1,r1,q1⟩=>dq (Z pins s1 σ H1 _ I1 q1) λu s2 ⟨y,H2,I2,r2,q2⟩=>
  dq (W pins s2 σ H2 x y v u _ I2 r1 r2 q2) λc s3 ⟨z,H3,I3,r3,k,e,q3⟩=>?_) Y
 subst e;cases r3;exact Ot ⟨H3,I3,q3⟩
def wO(r r':R2)(ta tb tc:TE):TE:=λσ H Q=>ta σ H λx H1=>tb σ H1 λy H2=>r x y H2 λz H3=>∃k,z= .bl k/\
 (if k=c_ then tc σ H3 λw' H4=>r' y w' H4 Q else Q (.bl dr) H3)
theorem Bm{op Z:TH}{r W:R2}(S:gv X (ip op) r)(Y:gv X (ip Z) W)(P:PE X a ta)(U:PE X b tb)(R:PE X c tc)
  (T:RH [op,Z] [b,c]=false:=by with_unfolding_all rfl):PE X (.Compare a [op,Z] [b,c] pos) (wO r W ta tb tc):=by
 intro pins s σ H Q I h;refine Compare_chain (dq (P pins s σ H _ I h) λv s1 ⟨x,H1,I1,r1,q1⟩=>chain_link (dq (U pins s1 σ H1 _ I1 q1) λu s2 ⟨y,H2,I2,r2,q2⟩=>
  dq (S pins s2 σ H2 x y v u _ I2 r1 r2 q2) λd s3 ⟨z,H3,I3,r3,k,e,q3⟩=>?_)) T
 subst e;cases r3;refine Ot ?_;cases k with
 |false=>exact TZ ⟨.bl dr,H3,I3,rfl,q3⟩
 |true=>exact T3 (chain_last (dq (R pins s3 σ H3 _ I3 q3) λw' s4 ⟨z',H4,I4,r4,q4⟩=>Y pins s4 σ H4 y z' u w' Q I4 r2 r4 q4))
theorem Bo{op Z:TH}{r W:R2}(N:gv X (ip op) r)(Y:gv X (ip Z) W)(R:PE X a ta)(U:PE X b tb)(S:PE X c tc)
  (T:RH [op,Z] [b,c]=false:=by with_unfolding_all rfl):PT X (.Compare a [op,Z] [b,c] pos) (Gw (wO r W ta tb tc)):=by
 intro pins s σ H Q I h;refine isTrue_chain (dq (R pins s σ H _ I h) λv s1 ⟨x,H1,I1,r1,q1⟩=>Ti (dq (U pins s1 σ H1 _ I1 q1) λu s2 ⟨y,H2,I2,r2,q2⟩=>
  dq (N pins s2 σ H2 x y v u _ I2 r1 r2 q2) λd s3 ⟨z,H3,I3,r3,k,e,q3⟩=>?_)) T
 subst e;cases r3;refine Ot ?_;cases k with
 |false=>
  obtain⟨L,P,O⟩:=q3;cases P;exact TZ ⟨H3,I3,O⟩
 |true=>
  refine T3 (test_last (dq (S pins s3 σ H3 _ I3 q3) λw' s4 ⟨z',H4,I4,r4,q4⟩=>dq (Y pins s4 σ H4 y z' u w' _ I4 r2 r4 q4) λd' s5 ⟨z2,H5,I5,r5,k2,e2,q5⟩=>?_));subst e2;cases r5;exact Ot ⟨H5,I5,q5⟩
theorem mM:(sizeLine:Nat)<2 ^ 63:=by rw[Oo];decide
theorem wQ:gv X (t_ .Add) (λx y H Q=>∃i j,x= .str i/\y= .str j/\i.length+j.length<=sizeLine/\Q (.str (i++j)) H):=by intro pins s σ H x y v u Q I W Y h;obtain⟨i,j,rfl,rfl,Z,q⟩:=h;obtain⟨t,rfl⟩:=W;obtain⟨t',rfl⟩:=Y;exact add_str (λt' U=>⟨.str (i++j),H,I.tok _,⟨_,rfl⟩,q⟩) Z
theorem vals1{x:V}{us:List aC}(r:bj [x] us):∃u,us=[u]/\RelV x u:=by
 cases r with
 |cons r1 r2=>cases r2;exact⟨_,rfl,r1⟩
theorem vals2{x y:V}{us:List aC}(r:bj [x,y] us):∃u w',us=[u,w']/\RelV x u/\RelV y w':=by
 cases r with
 |cons r1 r2=>
  cases r2 with
  |cons r3 r4=>cases r4;exact⟨_,_,rfl,r1,r3⟩
theorem zX(Z:X.calm=c_):cY X (.builtin "max") (λxs H Q=>∃i j,xs=[.int i,.int j]/\Q (.int (if j>i then j else i)) H):=by
 intro pins s σ H xs us Q I r h;obtain⟨i,j,rfl,q⟩:=h;obtain⟨u,W,rfl,⟨t,rfl⟩,⟨t',rfl⟩⟩:=vals2 r;refine max_two_ints (I.ok.hd Z) λh' Y k=>⟨_,H,I.kept k,?_,q⟩;by_cases hj:j>i
 ·rw[if_pos hj,if_pos hj];exact⟨_,rfl⟩
 ·rw[if_neg hj,if_neg hj];exact⟨_,rfl⟩
theorem zY(Z:X.calm=c_):cY X (.builtin "min") (λxs H Q=>∃i j,xs=[.int i,.int j]/\Q (.int (if j<i then j else i)) H):=by
 intro pins s σ H xs us Q I r h;obtain⟨i,j,rfl,q⟩:=h;obtain⟨u,W,rfl,⟨t,rfl⟩,⟨t',rfl⟩⟩:=vals2 r;refine min_two_ints (I.ok.hd Z) λh' Y k=>⟨_,H,I.kept k,?_,q⟩;by_cases hj:j<i
 ·rw[if_pos hj,if_pos hj];exact⟨_,rfl⟩
 ·rw[if_neg hj,if_neg hj];exact⟨_,rfl⟩
theorem sX:cY X (.type "str") (λxs H Q=>∃i,xs=[.int i]/\i.natAbs.log2<1920/\Q (.str (L_ i)) H):=by intro pins s σ H xs us Q I r h;obtain⟨i,rfl,Z,q⟩:=h;obtain⟨u,rfl,t,rfl⟩:=vals1 r;exact PySem.P.str_of_int Z ⟨.str _,H,I.tok _,⟨_,rfl⟩,q⟩
end
structure ObjM(h:fg)(x dx C:b_)(mA:Str->Option aC):Prop where
 obj:h.get? x=ar (Th C dx)
 ns:h.Ns1 dx mA
 ne:dx≠x
theorem zZ{h:fg}{X:b_}{Y:Str->Option aC}(n:h.Ns1 X Y):∃od,h.get? X=ar od/\∀name,Sk name od=ar (Y name):=by
 obtain⟨o,es,ep,T,hd,R,_,hm⟩:=n;refine⟨o,T,λname=>?_⟩;have e:=hm name;unfold nsFind findBy at e;rw[<-Array.find?_toList]at e;unfold Sk;rw[hd];dsimp only;split
 ·rename_i y q
  rw[q]at e;exact Of ar e
 ·rename_i q
  rw[q]at e;have a:es.toList.any (·.refKey)=false:=by rw[List.any_eq_false];intro y U;obtain⟨z,t,Z⟩:=R y (Qx.mp U);simp[DictEntry.refKey,Z]
  have S:¬ es.toList.any (·.refKey)=true:=by rw[a];exact OS
  rw[if_neg S];exact Of ar e
theorem ObjM.look{h:fg}{x Y C:b_}{Z:Str->Option aC}(I:ObjM h x Y C Z):∃od,F0 h x (Th C Y) C (ar od)/\∀name,Sk name od=ar (Z name):=
 let ⟨od,ho,hl⟩:=zZ I.ns
 ⟨od,⟨I.obj,rfl,rfl,ho⟩,hl⟩
section
variable {prog:eb}{w:er}{A:g_}{E:aC->a_->Prop}{s:a_}{K:dt}{x dx C f:b_}{mA:Str->Option aC}{name:Str}{v:aC}
end
theorem uT.some_of{v:V}{o:Option aC}(r:uT (ar v) o):∃u,o=ar u/\RelV v u:=by
 cases o with
 |none=>exact(show False from r).elim
 |some u=>exact⟨u,rfl,r⟩
theorem z6{v:V}{u:aC}(r:RelV v u):W.handedIn u=true:=by
 cases v with
 |non=>cases (show u=hY from r);rfl
 |bl b=>cases (show u=u_ b from r);rfl
 |int i=>obtain⟨t,e⟩:=(show ∃t,u=oi i t from r);cases e;rfl
 |str x=>obtain⟨t,e⟩:=(show ∃t,u=k8 x t from r);cases e;rfl
 |byt b=>obtain⟨t,e⟩:=(show ∃t,u=Value.bytes b t from r);cases e;rfl
 |flt b=>obtain⟨t,e⟩:=(show ∃t,u=RV b t from r);cases e;rfl
 |ref a=>cases (show u=ee a from r);rfl
 |ty n=>cases (show u=y7 n from r);rfl
section
variable {P:eb}{w:er}{H H':Hp}{h h':fg}{a C dx:b_}{fs fs':List (Str×V)}
theorem eO(Y:gh P w H h)(e:H a=ar (.ins C dx fs)):∃Z,ObjM h a dx C Z/\(∀f,uT (fs.lookup f) (Z f))/\PySem.Within Z (fs.map (·.1))/\fs.length<=1000/\H dx=ar (.own a):=by obtain⟨d,z,ne,X,Z,n,r,q⟩:=(show bh P w H h a (.ins C dx fs)from Y a _ e);exact⟨Z,⟨X,n,ne⟩,r,q,z,d⟩
end
structure Cls(K:dt)(C:b_):Prop where
 pg:W.plainGet K C ri=c_
 hd:W.hasDictIn K C=c_
 po:W.plainOver K C=c_
 sa:RI K (.ref C) "__setattr__"=ar (ar (.builtin "object.__setattr__"))
theorem Cls.get{K:dt}{C:b_}(c:Cls K C)(f:Str):W.plainGet K C f=true:=c.pg
structure Con(K:dt)(C:b_)(f:Str)(v:V)(u:aC):Prop where
 at_:RI K (.ref C) f=ar (ar u)
 rel:RelV v u
 get:W.specialIn K u "__get__"=ar none
 cp:W.copiedNames.contains f=dr
structure Meth(K:dt)(C:b_)(m:Str)(f:b_):Prop where
 at_:RI K (.ref C) m=ar (ar (.ref f))
 fn:W.isFn K (.ref f)=c_
 kp:A_ K (.ref f)=c_
section
variable {X:Cx}{pins:List (b_×Obj)}{σ:St}{H:Hp}{s:a_}{a C dx:b_}{fs:List (Str×V)}{f:Str}{v:V}{A:g_}{E:aC->a_->Prop}
theorem EG{prog:eb}{w:er}{env:Env}{e:Expr}{f:Str}{pos:Pos}{s:a_}{Q:aC->a_->Prop}(Y:j7 e f env (g6 e env)=g6 e env)
  (h:d_ (eK prog w) A (g6 e env) (λo Z=>d_ (eK prog w) A (Ub o f c_) Q E Z) E s):d_ (eK prog w) A (g6 (.Attribute e f pos) env) Q E s:=
 Attribute_any_ h (by rw[arm_eval_Attribute,Y])
end
section
variable {X:Cx}{o e value:Expr}{f:Str}{pos pos' tpos:Pos}{ta tv:TE}
end
section
variable {X:Cx}{pins:List (b_×Obj)}{σ:St}{H:Hp}{s:a_}{A:g_}{E:aC->a_->Prop}{Q:aC->a_->Prop}{c:aC}{b:Bool}
inductive TyOf(K:dt)(H:Hp):V->aC->Prop where
 |non:TyOf K H .non (.type "NoneType")
 |bl (x:Bool):TyOf K H (.bl x) (.type "bool")
 |int (i:Int):TyOf K H (.int i) (.type "int")
 |str (x:Str):TyOf K H (.str x) (.type "str")
 |flt (x:UInt64):TyOf K H (.flt x) (.type "float")
 |lst {a:b_} {xs:List V} (e:H a=ar (.lst xs)):TyOf K H (.ref a) (.type "list")
 |frz {a:b_} {o:Obj} {xs:List V} (e:H a=ar (.frz o (.lst xs))):TyOf K H (.ref a) (.type "list")
 |tup {a:b_} {xs:List V} (e:H a=ar (.tup xs)):TyOf K H (.ref a) (.type "tuple")
 |dK {a:b_} {kvs:List (Key×V)} (e:H a=ar (.dK kvs)):TyOf K H (.ref a) (.type "dict")
 |dT {a:b_} {kvs:List (List Key×V)} (e:H a=ar (.dT kvs)):TyOf K H (.ref a) (.type "dict")
 | ins {a C dx:b_} {fs:List (Str×V)} (e:H a=ar (.ins C dx fs)) (cl:Cls K C) (ha:RI K (.ref C) "__class__"=ar (ar (.builtin "object.__class__")))
   (hn:W.specialIn K (.builtin "object.__class__") "__get__"=ar (ar (.builtin "getset_descriptor.__get__"))) (htk:W.takesIn K (.builtin "object.__class__")=ar c_)
   (hm:W.mroIn K C (.type "object")=ar c_):TyOf K H (.ref a) (.ref C)
theorem z8{x:V}{u t:aC}(I:Inv X pins σ H s)(Z:RelV x u)(T:TyOf X.K H x t)(e:rn X.K t c=ar b)(h:∀tk,Q (.bool b) {s with toks:=tk}):
  d_ (eK X.prog X.w) A (call (.builtin "isinstance") [u,c]) Q E s:=by
 cases T with
 |non=>cases (show u=hY from Z);exact Os Q2 I.kIn p4 e (λz=>nomatch z) h
 |bl y=>cases (show u=u_ y from Z);exact Os W.kitx_bool I.kIn p4 e (λz=>nomatch z) h
 |int i=>obtain⟨t,q⟩:=(show ∃t,u=oi i t from Z);cases q;exact Os W.kitx_int I.kIn p4 e (λz=>nomatch z) h
 |str y=>obtain⟨t,q⟩:=(show ∃t,u=k8 y t from Z);cases q;exact Os W.kitx_str I.kIn p4 e (λz=>nomatch z) h
 |flt y=>obtain⟨t,q⟩:=(show ∃t,u=RV y t from Z);cases q;exact Os W.kitx_float I.kIn p4 e (λz=>nomatch z) h
 | @lst a xs ea=>
  cases (show u=ee a from Z);obtain⟨_,_,n,_,Y⟩:=(show bh X.prog X.w H s.heap a (.lst xs)from I.hok a _ ea);exact Os P7 I.kIn ⟨_,Y,rfl⟩ e (λz=>nomatch z) h
 | @frz a ob xs ea=>
  cases (show u=ee a from Z);obtain⟨_,_,_,n,_,Y⟩:=(show bh X.prog X.w H s.heap a (.frz ob (.lst xs))from I.hok a _ ea);exact Os P7 I.kIn ⟨_,Y,rfl⟩ e (λz=>nomatch z) h
 | @tup a xs ea=>
  cases (show u=ee a from Z);obtain⟨_,_,_,p⟩:=(show bh X.prog X.w H s.heap a (.tup xs)from I.hok a _ ea);obtain⟨o,Y,U,_⟩:=p;exact Os W.kitx_tuple I.kIn ⟨o,Y,U⟩ e (λz=>nomatch z) h
 | @dK a kvs ea=>
  cases (show u=ee a from Z);obtain⟨_,_,vs,_,p⟩:=(show bh X.prog X.w H s.heap a (.dK kvs)from I.hok a _ ea);obtain⟨o,es,ep,Y,U,_⟩:=p;exact Os P8 I.kIn ⟨o,Y,U.1⟩ e (λz=>nomatch z) h
 | @dT a kvs ea=>
  cases (show u=ee a from Z);obtain⟨_,_,xs,_,o,es,ep,Y,U,_⟩:=(show bh X.prog X.w H s.heap a (.dT kvs)from I.hok a _ ea);exact Os P8 I.kIn ⟨o,Y,U.1⟩ e (λz=>nomatch z) h
 | @ins a C dx fs ea cl ha hn htk hm=>
  cases (show u=ee a from Z);obtain⟨S,O,_⟩:=eO I.hok ea;obtain⟨od,J,_⟩:=O.look;exact Os (W.kitx_own (cl.get _) cl.hd ha hn htk hm) I.kIn J e (λz=>nomatch z) h
end
structure Room(k:Nat)(A:g_):Prop where
 hd:A.handled=none
 dp:A.depth+3*k+5<recursionLimit
 un:A.units+16*k+200<A'
theorem Room.mono{j k:Nat}{A:g_}(r:Room k A)(h:j<=k):Room j A:=⟨r.hd,by have:=r.dp;omega,by have:=r.un;omega⟩
theorem Room.deeper{k:Nat}{A:g_}(r:Room (k+1) A)(env:Env):Room k (A.deeper env):=
 ⟨r.hd,by have:=r.dp;show A.depth+1+3*k+5<_;omega,by have:=r.un;show A.units+3+16*k+200<_;omega⟩
theorem Room.depth{k:Nat}{A:g_}(r:Room k A):A.depth<recursionLimit:=by have:=r.dp;omega
def Mn:TA:=λ_ H Q=>Q [] H
def Kj(ta:TE)(tr:TA):TA:=λσ H Q=>ta σ H λx H1=>tr σ H1 λxs H2=>Q (x::xs) H2
section
variable {X:Cx}{e:Expr}{es:List Expr}{te:TE}{t:TA}{pos:Pos}
theorem kF:PA X [] Mn:=λ_ _ _ _ H Q I h=>Calls.spliced_nil ⟨[],H,I,.nil,h⟩
theorem fe(Z:PE X e te)(Y:PA X es t)(hs:dV (e::es) X.env=(dr,g6 e X.env)::dV es X.env:=by rfl):PA X (e::es) (Kj te t):=by intro pos pins s σ H Q I h;rw[hs];show d_ _ _ (spliced ((dr,g6 e X.env)::u' pos (dV es X.env))) _ _ s;refine Calls.spliced_cons (dq (Z pins s σ H _ I h) λu s1 ⟨x,H1,I1,r1,q1⟩=>?_);exact dq (Y pos pins s1 σ H1 _ I1 q1) λus s2 ⟨xs,H2,I2,r2,q2⟩=>⟨x::xs,H2,I2,.cons r1 r2,q2⟩
def Mo(t:TA):TE:=λσ H Q=>t σ H λxs H1=>xs.length<=sizeLine/\∀p,H1 p=none->Q (.ref p) (upd H1 p (.tup xs))
def Mp(t:TA):TE:=λσ H Q=>t σ H λxs H1=>xs.length<=sizeLine/\∀p,H1 p=none->Q (.ref p) (upd H1 p (.lst xs))
theorem Bp{x1}(h:PA X es t):PE X (.Tuple es x1 pos) (Mo t):=by intro pins s σ H Q I Z;refine wpAny_Tuple_spliced (dq (h pos pins s σ H _ I Z) λus s1 ⟨xs,H1,I1,r,z,q⟩=>⟨by rw[<-r.length];exact z,?_⟩);have hf:H1 s1.heap.objs.size=none:=I1.hok.fresh (Nu _);refine⟨.ref s1.heap.objs.size,upd H1 s1.heap.objs.size (.tup xs),I1.laid (t':=s1.toks) (λb u e=>Nq _ e) (Nu _) ?_,rfl,q _ hf⟩;exact⟨mI z,us,r,⟨_,NA _ rfl,rfl,_,rfl⟩⟩
theorem HI(h:PA X es t):PE X (.List es pos) (Mp t):=by intro pins s σ H Q I Z;refine wpAny_List_spliced (dq (h pos pins s σ H _ I Z) λus s1 ⟨xs,H1,I1,r,z,q⟩=>⟨by rw[<-r.length];exact z,?_⟩);have hf:H1 s1.heap.objs.size=none:=I1.hok.fresh (Nu _);refine⟨.ref s1.heap.objs.size,upd H1 s1.heap.objs.size (.lst xs),I1.laid (t':=s1.toks) (λb u e=>Nq _ e) (Nu _) ?_,rfl,q _ hf⟩;exact⟨z,us,0,r,NA _ rfl⟩
end
abbrev Sp:=List V->Hp->VK->XK->Prop
abbrev A9:=List Env->Hp->a_->XK->aC->a_->Prop
structure aI(P:eb)(w:er)(K:dt)(mg:Str->Option aC)(base:fg)(A:g_)(outer:List Env)(s:a_)(H:Hp):Prop where
 frames:A.frames=ar outer
 mod:Mod K mg base
 bs:∀b o,base.get? b=ar o->s.heap.get? b=ar o/\H b=none
 bsz:base.objs.size<=s.heap.objs.size
 funs:s.heap.FunFrames base outer
 frf:∀b∈jw outer,H b=none
 hok:gh P w H s.heap
 bare:D' s.gens
def CE(outer:List Env)(P:eb)(w:er)(H:Hp)(s:a_)(Q:VK)(u:aC)(s':a_):Prop:=
 ∃v H',s'.os=s.os/\D' s'.gens/\Un (jw outer) [] H H' s.heap s'.heap/\gh P w H' s'.heap/\RelV v u/\Q v H'
def CR(CX:A9)(outer:List Env)(P:eb)(w:er)(H:Hp)(s:a_)(Q:VK)(E:XK)(r:T4)(s':a_):Prop:=
 match r with
 | .ok (.ret u)=>CE outer P w H s Q u s'
 | .ok _=>False
 | .error e=>CX outer H s E e s'
structure FnOk(P:eb)(w:er)(K:dt)(mg:Str->Option aC)(base:fg)(CX:A9)(k:Nat)(f:b_)(fd:f')(ps:List Str)(sp:Sp):Prop where
 len:∀vs H Q E,sp vs H Q E->vs.length=ps.length
 run:∀(A:g_) (outer:List Env) (s:a_) (H:Hp) (args:Args) (us:List aC) (vs:List V) (Q:VK) (E:XK),Room k A->aI P w K mg base A outer s H->Q8 s fd args (ps.zip us)->bj vs us->sp vs H Q E->
  K_ (eK P w) A (.call (.ref f) args) (CR CX outer P w H s Q E) s
section
variable {X:Cx}{pins:List (b_×Obj)}{σ:St}{H:Hp}{s s':a_}
theorem Inv.env0(I:Inv X pins σ H s):aI X.prog X.w X.K X.mg X.base X.A X.stack s H:=
 ⟨I.ok.frames,I.ok.mod,I.bs,Nz I.ok.bsz I.sz,I.stack,I.stkFree,I.hok,I.bare⟩
theorem Inv.after{Q:VK}{u:aC}(I:Inv X pins σ H s)(h:CE X.stack X.prog X.w H s Q u s'):EP X pins σ Q u s':=by obtain⟨v,W,os,bare,un,Y,r,q⟩:=h;obtain⟨U,g,d,t,Z⟩:=s';obtain rfl:Z=s.os:=os;exact⟨v,W,I.call (h':=U) (g':=g) (d':=d) (t':=t) (ch:=[]) un Y bare (λb z=>absurd z (by simp)),r,q⟩
end
def Kk(sp:Sp)(dvs:List V)(E:XK)(t:TA):TE:=λσ H Q=>t σ H λvs H1=>sp (vs++dvs) H1 Q E
def Binds(K:dt)(fd:f')(ps:List Str)(ds:List aC):Prop:=
 ∀(s:a_) (us:List aC),K.In s.heap->(us++ds).length=ps.length->Q8 s fd ⟨us,[]⟩ (ps.zip (us++ds))
theorem Binds.all{K:dt}{Y:f'}{Z:List Str}(h:∀us:List aC,us.length=Z.length->SY Y ⟨us,[]⟩=aw (Z.zip us)):Binds K Y Z []:=λs us _ X=>by rw[Om]at X⊢;exact .of_eq (h us X)
def oU(CX:A9)(X:Cx)(E:XK):Prop:=∀(pins:List (b_×Obj)) (σ:St) (H:Hp) (s:a_) (e:aC) (s':a_),Inv X pins σ H s->CX X.stack H s E e s'->X.xe e s'
section
variable {X:Cx}{CX:A9}{k:Nat}{f C:b_}{fd:f'}{ps:List Str}{sp:Sp}{dvs:List V}{ds:List aC}{E:XK}{x m:Str}{p pos apos:Pos}{e o:Expr}{es:List Expr}{ta:TE}{t:TA}
theorem HJ{Z:List (b_×Obj)}{W:St}{H:Hp}{s:a_}{Q:VK}{us:List aC}{vs:List V}(F:FnOk X.prog X.w X.K X.mg X.base CX k f fd ps sp)(O:Room k X.A)(T:Binds X.K fd ps ds)(P:bj dvs ds)(S:oU CX X E)
  (I:Inv X Z W H s) (r:bj vs us) (h:sp (vs++dvs) H Q E):d_ (eK X.prog X.w) X.A (call (.ref f) us) (EP X Z W Q) X.xe s:=by
 have U:bj (vs++dvs) (us++ds):=r.append P;have R:(us++ds).length=ps.length:=by rw[<-U.length];exact F.len _ _ _ _ h
 refine Q3 (Pq (F.run X.A X.stack s H ⟨us,[]⟩ (us++ds) (vs++dvs) Q E O I.env0 (T s us I.kIn R) U h) λr s' Y=>?_);cases r with
 |error e=>exact S Z W H s e s' I Y
 |ok fl=>
  cases fl with
  |ret u=>exact I.after Y
  |next=>exact j1 Y
  |brk=>exact j1 Y
  |cont=>exact j1 Y
theorem yf(F:FnOk X.prog X.w X.K X.mg X.base CX k f fd ps sp)(J:Room k X.A)(T:Gl X x)(S:X.mg x=ar (.ref f))(L:A_ X.K (.ref f)=c_)(U:Binds X.K fd ps ds)(N:bj dvs ds)(R:oU CX X E)
  (P:PA X (e::es) t) (Y:(x==("__debug__":Str))=false:=by decide) (O:dV (e::es) X.env=(dr,g6 e X.env)::dV es X.env:=by rfl) (Z:(u' pos (dV es X.env)).any (·.1)=false:=by rfl):
  PE X (.Call (.Name x p) (e::es) [] pos) (Kk sp dvs E t):=by
 intro pins s σ H Q I h;refine Po (lq I T S ?_ Y);refine W.callWith_K (h₀:=X.base) I.ok.mod.kin L (dq (P pos pins s σ H _ I h) λus s1 ⟨vs,H1,I1,r,q⟩=>⟨I1.kIn,?_⟩) O Z;exact HJ F J U N R I1 r q
structure Mk(K:dt)(C f:b_):Prop where
 makes:W.makesIn K C=c_
 init:RI K (.ref C) "__init__"=ar (ar (.ref f))
 fn:W.isFn K (.ref f)=c_
 kp:A_ K (.ref C)=c_
end
section
variable {X:Cx}{CX:A9}{k:Nat}{f C:b_}{fd:f'}{ps ks:List Str}{sp:Sp}{E:XK}{x m:Str}{p pos apos kpos:Pos}{e o:Expr}{es:List Expr}{kws:List SR}{te ta:TE}{t tk:TA}{nm:Option Str}
structure KBinds(K:dt)(fd:f')(ps ks:List Str)(g:List aC->List aC->List aC)(gV:List V->List V->List V):Prop where
 to:∀(s:a_) (us ws:List aC),K.In s.heap->(g us ws).length=ps.length->Q8 s fd ⟨us,ks.zip ws⟩ (ps.zip (g us ws))
 rel:∀{vs:List V} {us:List aC} {zs:List V} {ws:List aC},bj vs us->bj zs ws->bj (gV vs zs) (g us ws)
variable {g:List aC->List aC->List aC}{gV:List V->List V->List V}
end
structure FnScope(N P:List Str)(sc:Scope):Prop where
 kind:sc.kind= .function
 co:sc.isCoroutine=dr
 gen:sc.isGenerator=dr
 nd:N.Nodup
 pre:N.take P.length=P
 par:∀x∈P,sc.names.lookup x=ar .local\/sc.names.lookup x=ar .cell
 nofree:∀y∈sc.names,y.2≠ .free
theorem rO{Z:Str->Option m_}{x:Str}:∀{binds:List (Str×aC)} {m:Str->Option aC},(∀v,(x,v)∉binds)->SZ Z binds m x=m x
 |[],_,_=>rfl
 | (n,v)::r,m,h=>by
  unfold SZ;rw[rO λw hw=>h w (NF _ hw)];split
  ·have:x≠n:=by rintro rfl;exact h v NM
   simp[this]
  ·rfl
theorem rP{Z:Str->Option m_}{x:Str}:∀{binds:List (Str×aC)} {m:Str->Option aC},(∀v,(x,v)∉binds)->S8 Z binds m x=m x
 |[],_,_=>rfl
 | (n,v)::r,m,h=>by
  unfold S8;rw[rP λw hw=>h w (NF _ hw)];split
  ·rfl
  ·have:x≠n:=by rintro rfl;exact h v NM
   simp[this]
theorem rQ{Z:Str->Option m_}{x:Str}{v:aC}:∀{P:List Str} {vs:List aC} {i:Nat} {m:Str->Option aC},P.Nodup->P[i]? =ar x->vs[i]? =ar v->Z x=ar .local->
  SZ Z (P.zip vs) m x=ar v
 |[],_,_,_,_,h,_,_=>by simp at h
 |_::_,[],_,_,_,_,h,_=>by simp at h
 |p::P,w::vs,0,m,nd,h1,h2,hk=>by
  simp at h1 h2;subst h1;subst h2;show SZ Z ((p,w)::P.zip vs) m p=_;unfold SZ;rw[rO λv Y=>(Ow.mp nd).1 (PV Y).1,if_pos hk];simp
 |p::P,w::vs,i+1,m,nd,h1,h2,hk=>by
  show SZ Z ((p,w)::P.zip vs) m x=_;unfold SZ;exact rQ (i:=i) (Ow.mp nd).2 (by simpa using h1) (by simpa using h2) hk
theorem rR{Z:Str->Option m_}{x:Str}{v:aC}:∀{P:List Str} {vs:List aC} {i:Nat} {m:Str->Option aC},P.Nodup->P[i]? =ar x->vs[i]? =ar v->Z x≠ar .local->
  S8 Z (P.zip vs) m x=ar v
 |[],_,_,_,_,h,_,_=>by simp at h
 |_::_,[],_,_,_,_,h,_=>by simp at h
 |p::P,w::vs,0,m,nd,h1,h2,hk=>by
  simp at h1 h2;subst h1;subst h2;show S8 Z ((p,w)::P.zip vs) m p=_;unfold S8;rw[rP λv Y=>(Ow.mp nd).1 (PV Y).1,if_neg hk];simp
 |p::P,w::vs,i+1,m,nd,h1,h2,hk=>by
  show S8 Z ((p,w)::P.zip vs) m x=_;unfold S8;exact rR (i:=i) (Ow.mp nd).2 (by simpa using h1) (by simpa using h2) hk
def start(N:List Str)(vs:List V):St:=vs.map ar++k_ (N.length - vs.length) none
def oV(CX:A9)(P:eb)(w:er)(K:dt)(mg:Str->Option aC)(base:fg)(N:List Str)(qual:Str)(scope:Scope)(f:b_)(cd:aC)(A:g_)(outer:List Env)(s:a_)(H:Hp)(E:XK):Cx where
 prog:=P
 w:=w
 K:=K
 mg:=mg
 base:=base
 A:=A.deeper (G2 qual scope s.heap.objs.size f cd)
 N:=N
 s₀:=s
 H₀:=H
 env:=G2 qual scope s.heap.objs.size f cd
 outer:=outer
 stack:=G2 qual scope s.heap.objs.size f cd::outer
 ex:=[]
 calm:=c_
 fn:=λ_=>c_
 pn:=[]
 xe:=λe s'=>d_ (eK P w) (A.deeper (G2 qual scope s.heap.objs.size f cd)) (R6 (G2 qual scope s.heap.objs.size f cd) e) (λ_ s''=>CX outer H s E e s'') (λe' s''=>CX outer H s E e' s'') s'
theorem uY{Z:Scope}{n:Nat}{x:Str}(h:Z.names.lookup x=ar .cell):∃c,(j_ n Z.names []).lookup x=ar c:=by have q:=P5 Z.names n [] (.inl h);exact OH.mp q
theorem z9{B:A9}{P:eb}{w:er}{K:dt}{I:Str->Option aC}{base:fg}{N X:List Str}{qual:Str}{scope:Scope}{f:b_}{J:aC}{A:g_}{outer:List Env}{s C:a_}{H:Hp}{E:XK}{us:List aC}{vs:List V}
  (S:FnScope N X scope) (t:A.handled=none) (Y:aI P w K I base A outer s H) (d:vs.length=X.length) (r:bj vs us)
  (x:InCallC s s.heap.objs.size (SZ (G2 qual scope s.heap.objs.size f J).kindOf (X.zip us) λ_=>none) (j_ (s.heap.objs.size+1) scope.names []) (S8 (G2 qual scope s.heap.objs.size f J).kindOf (X.zip us) λ_=>none) C):
  Inv (oV B P w K I base N qual scope f J A outer s H E) [] (start N vs) H C:=by
 have l:X.length<=N.length:=by have:=Of nC S.pre;rw[N5]at this;omega
 obtain⟨L,j,rfl,F⟩:=x.done;have T:∀b:b_,b∉(oV B P w K I base N qual scope f J A outer s H E).ex:=λb z=>absurd (show b∈([]:List b_)from z) (by simp);refine⟨⟨Y.mod,S.kind,rfl,rfl,Nu _,λy z c L Z=>?_,λy U=>?_,λy c _ h=>?_,λ_=>t,Around.frames_deeper Y.frames,.inr ⟨rfl,rfl⟩,λb z=>absurd z (T b),Y.bs,Y.bsz,λb _ _=>T b,λb z=>absurd z (T b),Y.funs,Y.frf⟩,
  rfl,Y.bare,Un.kept F,⟨_,x.toInCall.ns,λi y v L Z g=>?_⟩,λy c h=>⟨_,x.cell y c h⟩,Y.hok.fresh (Nu _),λy c h=>?_,λp Q=>absurd (show p∈([]:List (b_×Obj))from Q) (by simp),Y.hok.kept F,?_⟩
 ·exact name_of_addr x.apart (Pd L) (Pd Z)
 ·have U:scope.names.lookup y=ar .cell\/scope.names.lookup y=ar .free:=U;rcases U with U|U
  ·exact uY U
  ·exact absurd rfl (S.nofree _ (Pd U))
 ·exact O2 (x.above y c (Pd h))
 ·have O:i<vs.length:=by
   unfold start at Z;by_cases O:i<vs.length
   ·exact O
   ·rw[PB (by simpa using O)]at Z;rw[List.getElem?_replicate]at Z;split at Z<;>cases Z
  have m:vs[i]? =ar v:=by
   unfold start at Z;rw[N4 (by simpa using O),NP]at Z;cases e:vs[i]? with
   |none=>rw[e]at Z;cases Z
   |some a=>rw[e]at Z;cases Z;rfl
  obtain⟨u,G,o⟩:=r.get m;have Q:X[i]? =ar y:=by rw[<-S.pre,Q4 (by omega)];exact L
  have R:X.Nodup:=by rw[<-S.pre];exact S.nd.sublist (List.take_sublist _ _)
  refine⟨u,o,?_⟩;rcases S.par y (NU Q)with k|k
  ·exact .inl ⟨k,rQ R Q G k⟩
  ·obtain⟨c,e⟩:=uY (n:=s.heap.objs.size+1) k;refine .inr ⟨.inl k,c,e,?_⟩;have q:=x.cell y c e;rw[rR R Q G (by show scope.names.lookup y≠_;rw[k];decide)]at q;exact q
 ·exact Y.hok.fresh (O2 (x.above y c (Pd h)))
 ·unfold start;show _=N.length;rw[Nr,Nt,List.length_replicate];omega
theorem Gx{B:A9}{P:eb}{w:er}{K:dt}{C:Str->Option aC}{base:fg}{k:Nat}{f:b_}{name qual:Str}{params:R7}{body:List sb}{scope:Scope}{i kV R j Z ct d:aC}{h od:Option b_}
  {p:Array (Option aC)} {N F:List Str} {sp:Sp} (lk:K.lookup f=ar ⟨d,od,.func (C_ name qual params body scope i kV R j h Z ct),p⟩) (z:RX K Z qual=c_) (S:FnScope N F scope)
  (O:∀vs H Q E,sp vs H Q E->vs.length=F.length)
  (U:∀(A:g_) (outer:List Env) (s:a_) (H:Hp) (vs:List V) (Q:VK) (E:XK),Room k (A.deeper (G2 qual scope s.heap.objs.size f Z))->sp vs H Q E->
   ∃t,rg (oV B P w K C base N qual scope f Z A outer s H E) body t/\t {nx:=λ_ X=>Q .non X,rt:=Q} (start N vs) H):
  FnOk P w K C base B (k+1) f (C_ name qual params body scope i kV R j h Z ct) F sp:=by
 refine⟨O,λA outer s H args us vs Q E m G c r L=>?_⟩;have hl:=O _ _ _ _ L;have g:K.In s.heap:=G.mod.kin.keeps λb o e=>(G.bs b o e).1;have lim:s.heap.NoLimit:=G.mod.nolimit.keeps λb o e=>(G.bs b o e).1;have T:∀y∈F.zip us,scope.names.lookup y.1=ar .local\/(scope.names.lookup y.1=ar .cell/\((j_ (s.heap.objs.size+1) scope.names []).lookup y.1).isSome=c_):=λ⟨n,v⟩ hy=>by
  rcases S.par n (PV hy).1 with q|q
  ·exact .inl q
  ·exact .inr ⟨q,P5 _ _ _ (.inl q)⟩
 refine codeAny_call_function m.depth (g _ _ lk) rfl S.co S.gen rfl (W.codeRec_of g z) (c _ _ _ _ ?_);refine wpAny_newFunctionEnv_cells S.kind T λenv he s1 x=>?_;subst he;refine⟨lim.keeps x.toInCall.keep,codeAny_func ?_⟩;obtain⟨t,ht,hq⟩:=U A outer s H vs Q E (m.deeper _) L;have I:Inv (oV B P w K C base N qual scope f Z A outer s H E) [] (start N vs) H s1:=z9 S m.hd G hl r x;refine OM (ht [] s1 (start N vs) H _ I hq) (λa s' hs=>?_) λe s' hs=>hs;have fin:∀{Y:St} {X:Hp} {v:V} {u:aC},Inv (oV B P w K C base N qual scope f Z A outer s H E) [] Y X s'->RelV v u->Q v X->CE outer P w H s Q u s':=
  λ{Y X v u} J l q=>⟨v,X,J.os,J.bare,J.base,J.hok,l,q⟩
 cases a with
 |ret u=>
  obtain⟨v,Y,X,J,l,q⟩:=hs;exact fin J l q
 |next=>
  obtain⟨Y,X,J,q⟩:=hs;exact fin (v:=V.non) (u:=hY) J rfl q
 |brk=>
  obtain⟨_,_,_,q⟩:=hs;exact j1 q
 |cont=>
  obtain⟨_,_,_,q⟩:=hs;exact j1 q
section
variable {X:Cx}{x:Str}{p pos:Pos}{e:Expr}{es:List Expr}{t:TA}{id T:String}{r:List V->Hp->VK->Prop}
def Mq(r:List V->Hp->VK->Prop)(t:TA):TE:=λσ H Q=>t σ H λvs H1=>r vs H1 Q
theorem jA(P:cY X (.builtin id) r)(U:Gl X x)(S:X.mg x=none)(O:la x=ar (.builtin id))(N:PA X (e::es) t)(W:x≠"__name__":=by decide)(Y:(x==("__debug__":Str))=false:=by decide)
  (R:dV (e::es) X.env=(dr,g6 e X.env)::dV es X.env:=by rfl) (Z:(u' pos (dV es X.env)).any (·.1)=false:=by rfl):PE X (.Call (.Name x p) (e::es) [] pos) (Mq r t):=by
 intro pins s σ H Q I h;refine Po (mL I U S O ?_ W Y);exact PyProof.Rows.callWith_builtin1 (dq (N pos pins s σ H _ I h) λus s1 ⟨vs,H1,I1,r1,q1⟩=>P pins s1 σ H1 vs us Q I1 r1 q1) R Z
theorem jX(P:cY X (.type T) r)(U:Gl X x)(S:X.mg x=none)(O:la x=ar (.type T))(N:PA X (e::es) t)(W:x≠"__name__":=by decide)(Y:(x==("__debug__":Str))=false:=by decide)
  (R:dV (e::es) X.env=(dr,g6 e X.env)::dV es X.env:=by rfl) (Z:(u' pos (dV es X.env)).any (·.1)=false:=by rfl):PE X (.Call (.Name x p) (e::es) [] pos) (Mq r t):=by
 intro pins s σ H Q I h;refine Po (mL I U S O ?_ W Y);exact OY (dq (N pos pins s σ H _ I h) λus s1 ⟨vs,H1,I1,r1,q1⟩=>P pins s1 σ H1 vs us Q I1 r1 q1) R Z
end
end L2
namespace HT
open PySem PyProof.Rows
def lexLt:List Int->List Int->Bool
 |[],[]=>dr
 |[],_::_=>c_
 |_::_,[]=>dr
 |x::xs,y::ys=>if x=y then lexLt xs ys else decide (x<y)
theorem lexLt_cons(x y:Int)(xs ys:List Int):lexLt (x::xs) (y::ys)=if x=y then lexLt xs ys else decide (x<y):=rfl
theorem rh:lexLt [] []=false:=rfl
theorem oW(y:Int)(ys:List Int):lexLt [] (y::ys)=true:=rfl
theorem oX(x:Int)(xs:List Int):lexLt (x::xs) []=false:=rfl
theorem Bq(A:g_)(s:a_)(a:Int)(t:Tok)(c:Int)(u:Tok):∃e,SeqAt.EqAt A s (.int a t) (.int c u) e/\(e=c_↔a=c):=
 ⟨(a==c),SeqAt.EqAt.int_int a t c u,by simp⟩
theorem Br(A:g_)(s:a_)(a:Int)(t:Tok)(c:Int)(u:Tok)(prog:eb)(w:er)(E:aC->a_->Prop)(Q:aC->a_->Prop)(h:Q (.bool (decide (a<c))) s):
  d_ (eK prog w) A (richCompare .Lt (.int a t) (.int c u)) Q E s:=
 (PyProof.Rows.lt_int h:d_ (eK prog w) A (ip .Lt (.int a t) (.int c u)) Q E s)
section
open PySem.SeqAt
open PySem.AutoSeq1 (wpAny_loadPart')
open PySem.MeetsSeq PySem.MeetsSeq2 PySem.MeetsSeq3
theorem rj(l b:b_)(items Z:Array aC)(n J:Nat)(dd T:Option b_)(L Q:Array (Option aC))(ns X:List Int)(P:n_ items.toList ns)(N:n_ Z.toList X):
  Meets (Builtin.«tuple.__lt__» ⟨[.ref l,.ref b],[]⟩)
   (λ_ R s=>s.heap.get? l=ar {cls:=.type "tuple",dict:=dd,data:=.seq items n,slots:=L}/\s.heap.get? b=ar {cls:=.type "tuple",dict:=T,data:=.seq Z J,slots:=Q}/\
    R (.ok (.ret (.bool (lexLt ns X)))) s):=
 .of_wp λprog w A R s h=>by
  obtain⟨U,g,d,W,os⟩:=s;obtain⟨I,K,h⟩:=h;have f2:=AutoSeq1.sub_tuple_tuple;have H:items.size=ns.length:=by rw[<-P.length];simp
  have G:Z.size=X.length:=by rw[<-N.length];simp
  wp_walk using wpAny_loadPart' I,wpAny_loadPart' K,Qn _ (λrest b s'=>b.1=none/\s'=⟨U,g,d,W,os⟩/\∃(vs ws:List aC) (ns' ms':List Int),rest=vs.zip ws/\
   n_ vs ns'/\n_ ws ms'/\ns'.length+Z.size=ms'.length+items.size/\R (.ok (.ret (.bool (lexLt ns' ms')))) ⟨U,g,d,W,os⟩) _
  case turn=>
   rintro⟨y,x⟩ rest b s' ⟨hb',rfl,vs,ws,ns',ms',hz,hvi,hwi,hlen,hR⟩;cases hvi with
   |nil=>rw[List.zip_nil_left]at hz;cases hz
   | cons a t hvi'=>
    cases hwi with
    |nil=>rw[List.zip_nil_right]at hz;cases hz
    | cons c u hwi'=>
     rw[QO]at hz;injection hz with hyx hrest;injection hyx with hy hx;subst hy hx;rw[lexLt_cons]at hR;simp only[ra]at hlen;obtain⟨e,he,Y⟩:=Bq A.in1 ⟨U,g,d,W,os⟩ a t c u;refine Np (he prog w _ _ ?_);cases e with
     |true=>
      rw[if_pos (Y.mp rfl)]at hR
      wp_walk
      exact⟨rfl,rfl,_,_,_,_,hrest,hvi',hwi',by omega,hR⟩
     |false=>
      rw[if_neg (λq=>absurd (Y.mpr q) OS)]at hR;have S:=Br A.in1 ⟨U,g,d,W,os⟩ a t c u prog w
      wp_walk using S
      exact⟨_,rfl,by simpa using hR⟩
  case fin=>
   rintro⟨b1,b2⟩ s' ⟨hb',rfl,vs,ws,ns',ms',hz,hvi,hwi,hlen,hR⟩;simp only at hb';subst hb';have O:lexLt ns' ms'=decide (items.size<Z.size):=by
    cases hvi with
    | nil=>
     cases hwi with
     |nil=>
      simp only[G3]at hlen;rw[rh];exact(NQ (by omega)).symm
     |cons c u hw=>
      simp only[G3,ra]at hlen;rw[oW];exact(NJ (by omega)).symm
    | cons a t O=>
     cases hwi with
     |nil=>
      simp only[G3,ra]at hlen;rw[oX];exact(NQ (by omega)).symm
     |cons c u hw=>
      rw[QO]at hz;cases hz
   rw[O]at hR
   wp_walk
   exact⟨_,rfl,by simpa [Builtin.Tuple.tupleCompareSizes]using hR⟩
  case h=>
   exact⟨rfl,rfl,items.toList,Z.toList,ns,X,rfl,P,N,by omega,h⟩
end
section
variable {prog:eb}{w:er}{A:g_}{E:aC->a_->Prop}{s:a_}
theorem lt_tupInts{l b:b_}{items Z:Array aC}{ns Y:List Int}{Q:aC->a_->Prop}(I:Tg s.heap l items)(O:Tg s.heap b Z)(J:n_ items.toList ns)(H:n_ Z.toList Y)
  (K:A.units<A') (h:Q (.bool (lexLt ns Y)) s):d_ (eK prog w) A (ip .Lt (.ref l) (.ref b)) Q E s:=by
 obtain⟨⟨cls,dd,data,L⟩,P,S,n,hd⟩:=id I;obtain⟨⟨R,U,data2,T⟩,X,W,N,hd2⟩:=id O;simp only at S hd W hd2;subst S hd W hd2;exact richCompare_meets_room (op:=.Lt) ⟨_,P,rfl⟩ ⟨_,X,rfl⟩ PySem.F.slot_tuple_lt PySem.F.entry_tuple_lt (PySem.F.args_tuple_lt_2 _ _) (rj l b items Z n N dd U L T ns Y J H)
  ⟨P,X,show u_ (lexLt ns Y)≠Value.notImplemented/\Q (.bool (lexLt ns Y)) s from⟨(λx=>nomatch x),h⟩⟩ K
theorem cat_tup{t b:b_}{vs ws:List aC}{Q:aC->a_->Prop}(J:Tg s.heap t vs.toArray)(L:Tg s.heap b ws.toArray)(N:vs≠[])
  (K:ws=[]->Q (.ref t) s) (I:ws≠[]->Q (.ref s.heap.objs.size) {s with heap:=s.heap.push {cls:=.type "tuple",data:=.seq (vs++ws).toArray}})
  (T:vs.length+ws.length<=sizeLine):d_ (eK prog w) A (t_ .Add (.ref t) (.ref b)) Q E s:=by
 obtain⟨⟨cls,dd,data,R⟩,U,P,n,hd⟩:=id J;obtain⟨⟨O,Y,data2,X⟩,Z,W,S,hd2⟩:=id L;simp only at P hd W hd2;subst P hd W hd2;have e:vs.toArray++ws.toArray=(vs++ws).toArray:=by simp
 by_cases hw:ws=[]
 ·exact Sl ⟨_,U,rfl⟩ ⟨_,Z,rfl⟩ Ro Se P6 PX (PP _ _)
   (tuple_addW1 t b vs.toArray ws.toArray n S dd Y R X (by simpa using N) (by simp[hw])) ⟨U,Z,K hw⟩
 ·refine Sl ⟨_,U,rfl⟩ ⟨_,Z,rfl⟩ Ro Se P6 PX (PP _ _)
   (tuple_addW2 t b vs.toArray ws.toArray n S dd Y R X (by simpa using N) (by simpa using hw) (by rw[NG,NG];exact T)) ⟨U,Z,?_⟩
  rw[e];exact I hw
def sIx(n d:Nat):Option Int->Nat
 |none=>d
 |some v=>if v<0 then (v+(n:Int)).toNat else min v.toNat n
theorem sIx_none(n d:Nat):sIx n d none=d:=rfl
theorem sIx_nat(n d k:Nat):sIx n d (ar (k:Int))=min k n:=by show(if (k:Int)<0 then ((k:Int)+(n:Int)).toNat else min (k:Int).toNat n)=min k n;rw[if_neg (by omega),OB]
theorem sIx_le(n d:Nat)(Z:d<=n)(o:Option Int):sIx n d o<=n:=by
 cases o with
 |none=>exact Z
 |some v=>
  show(if v<0 then (v+(n:Int)).toNat else min v.toNat n)<=n;by_cases hv:v<0
  ·rw[if_pos hv];omega
  ·rw[if_neg hv];exact Nat.min_le_right _ _
theorem yg(v:Int)(n d:Nat):(if v<0 then max (v+(n:Int)) 0 else min v (n:Int))=((sIx n d (ar v):Nat):Int):=by
 show(if v<0 then max (v+(n:Int)) 0 else min v (n:Int))=(((if v<0 then (v+(n:Int)).toNat else min v.toNat n):Nat):Int);by_cases hv:v<0
 ·simp only[if_pos hv];omega
 ·simp only[if_neg hv];omega
theorem wR(Y Z:Option Int)(n:Nat):x_ Y Z 1 (n:Int)=(((sIx n 0 Y:Nat):Int),((sIx n n Z:Nat):Int)):=by
 have X:¬ ((1:Int)<0):=by omega
 unfold x_;simp only[X,if_false];refine Qf ?_ ?_
 ·cases Y with
  |none=>rfl
  |some v=>exact yg v n 0
 ·cases Z with
  |none=>rfl
  |some v=>exact yg v n n
theorem wU(i j:Nat):pa (i:Int) (j:Int) 1=j - i:=by
 unfold pa;have Z:(1:Int)>0:=by omega
 simp only[Z,if_true,Int.ediv_one];split<;>omega
theorem oY{v:aC}{o:Option Int}{Q:Option Int->a_->Prop}(p:RY v o)(h:Q o s):d_ (eK prog w) A (Builtin.Slice.slicePartIndex v) Q E s:=by
 cases p with
 |none=>exact slicePart_none h
 |int i t=>exact slicePart_int h
theorem sliceApplied_gen{T:b_}{vl U:aC}{Z W:Option Int}{n:Nat}{Q:Int×Int×Nat->a_->Prop}(hs:s.heap.IsSliceOf T vl U .none)(P:RY vl Z)(S:RY U W)
  (h:Q (((sIx n 0 Z:Nat):Int),1,sIx n n W - sIx n 0 Z) s):d_ (eK prog w) A (Builtin.Slice.sliceApplied (.ref T) (aw (n:Int))) Q E s:=by
 obtain⟨os,X,R,Y⟩:=id hs;unfold Builtin.Slice.sliceApplied Builtin.Slice.sliceFields;refine Np (Np (Ox X Y (x:=vl) rfl (Np (Ox X Y (x:=U) rfl (Np (Ox X Y (x:=.none) rfl (Nv ?_)))))));refine Np (slicePart_none ?_);show d_ _ _ (if ((1:Int)==0)=c_ then _ else _) _ _ s;rw[if_neg (by decide)];refine Np (oY P (Np (oY S (Np (Nv ?_)))));show d_ _ _ (match x_ Z W 1 (n:Int)with|(Z,W)=>aw (Z,(1:Int),pa Z W 1)) _ _ s;rw[wR Z W n];show d_ _ _ (aw (((sIx n 0 Z:Nat):Int),(1:Int),pa ((sIx n 0 Z:Nat):Int) ((sIx n n W:Nat):Int) 1)) _ _ s;rw[wU];exact Nv h
theorem Bs(xs:Array aC)(i k:Nat):((ey k).filterMap λ(m:Nat)=>xs[((i:Int)+(m:Int)*1).toNat]?).toArray=((xs.toList.drop i).take k).toArray:=by
 have e:(λ(m:Nat)=>xs[((i:Int)+(m:Int)*1).toNat]?)=λm=>xs[i+m]? :=by
  funext m;have:((i:Int)+(m:Int)*1).toNat=i+m:=by omega
  rw[this]
 rw[e];have:=pick_run xs i k;rw[List.filterMap_map]at this;have e2:((λx=>xs[x]?)∘λx=>i+x)=λm=>xs[i+m]? :=rfl;rw[e2]at this;rw[this]
theorem getItem_tuple_cut{t U:b_}{items:Array aC}{vl O:aC}{Y X:Option Int}{Q:aC->a_->Prop}(W:Tg s.heap t items)(hs:s.heap.IsSliceOf U vl O .none)(N:RY vl Y)(L:RY O X)
  (K:¬ (sIx items.size 0 Y=0/\sIx items.size items.size X=items.size))
  (h:Q (.ref s.heap.objs.size) {s with heap:=s.heap.push {cls:=.type "tuple",data:=.seq ((items.toList.drop (sIx items.size 0 Y)).take (sIx items.size items.size X - sIx items.size 0 Y)).toArray}})
  (J:items.size<=sizeLine):d_ (eK prog w) A (Sn (.ref t) (.ref U)) Q E s:=by
 have Z:sizeOk (.seq ((items.toList.drop (sIx items.size 0 Y)).take (sIx items.size items.size X - sIx items.size 0 Y)).toArray):=by show((items.toList.drop (sIx items.size 0 Y)).take (sIx items.size items.size X - sIx items.size 0 Y)).toArray.size<=sizeLine;rw[NG,N5,NO,Pe];omega
 have F:sIx items.size items.size X<=items.size:=sIx_le _ _ (Nu _) X;obtain⟨os,S,T,I⟩:=id hs;have R:s.TypeIs (.ref U) "slice":=⟨os,S,T⟩;unfold Sn
 try with_reducible refine Ov ?_
 first|refine Np (Nv ?_)|skip
 refine Np (wpAny_sequenceKey W.typeIs (by decide) ?_);refine Np (wpAny_callSpecial?_slot (name:=j2 "__getitem__") W.typeIs ON
  (Oz ON W.typeIs entry_tuple_getitem ?_ (args_tuple_getitem _ _)))
 show d_ _ _ (Builtin.Tuple.tupleItemsOf (.ref t)>>=_) _ _ s;refine Np (tupleItemsOf_ W ?_);refine Np (Qh R ?_);rw[if_pos (by decide)];refine Np (sliceApplied_gen hs N L ?_);have P:¬ ((((sIx items.size 0 Y:Nat):Int)==0 && (1:Int)==1 && (sIx items.size items.size X - sIx items.size 0 Y)==items.size)=c_):=by intro q;rw[OA,OA]at q;have G:((sIx items.size 0 Y:Nat):Int)=0:=Tj q.1.1;have H:sIx items.size items.size X - sIx items.size 0 Y=items.size:=Tj q.2;exact K ⟨by omega,by omega⟩
 show d_ _ _ (if (((sIx items.size 0 Y:Nat):Int)==0 && (1:Int)==1 && (sIx items.size items.size X - sIx items.size 0 Y)==items.size)=c_ then _ else _) _ _ s;rw[if_neg P,Bs];first
  |exact Np (m:=p_ _) (Og (Nv ⟨_,rfl,Nv h⟩) Z)
  |exact Np (m:=p_ _) (Og (Np (Nv (Nv ⟨_,rfl,Nv h⟩))) Z)
  |exact Np (Np (m:=p_ _) (Og (Nv (Nv ⟨_,rfl,Nv h⟩)) Z))
  |exact Np (Np (m:=p_ _) (Og (Nv ⟨_,rfl,Nv h⟩) Z))
end
end HT
namespace L2
open PySem PySem.Spec PyProof.Rows
abbrev TO:=St->Hp->(Option Int->Hp->Prop)->Prop
def PO(X:Cx)(e:Option Expr)(t:TO):Prop:=
 ∀(pins:List (b_×Obj)) (s:a_) (σ:St) (H:Hp) (Q:Option Int->Hp->Prop),Inv X pins σ H s->t σ H Q->
  d_ (eK X.prog X.w) X.A (evalPart e X.env) (λu s'=>∃o H',Inv X pins σ H' s'/\RY u o/\Q o H') X.xe s
def EH:TO:=λ_ H Q=>Q none H
def Kl(t:TE):TO:=λσ H Q=>t σ H λx H1=>∃i,x= .int i/\Q (ar i) H1
theorem Q5{ns:List Int}:∀{us:List aC},bj (ns.map V.int) us->n_ us ns:=by
 induction ns with
 |nil=>intro us r;rw[OW]at r;cases r;exact .nil
 | cons n ns ih=>
  intro us r;rw[NI]at r;cases r with
  |cons r1 r2=>
   obtain⟨t,e⟩:=r1;subst e;exact .cons n t (ih r2)
section
variable {X:Cx}{e:Expr}{te:TE}{lo hi:Option Expr}{tl th:TO}{pos p2:Pos}
theorem EI:PO X none EH:=by intro pins s σ H Q I h;rw[evalPart_none];exact Nv ⟨none,H,I,.none,h⟩
theorem EJ(h:PE X e te):PO X (ar e) (Kl te):=by intro pins s σ H Q I hw;rw[evalPart_some];refine dq (h pins s σ H _ I hw) λu s1 ⟨x,H1,I1,r1,q1⟩=>?_;obtain⟨i,rfl,q⟩:=q1;obtain⟨t,rfl⟩:=r1;exact⟨ar i,H1,I1,.int i t,q⟩
def EK(X:Cx)(r:V->Option Int->Option Int->Hp->VK->Prop):Prop:=
 ∀(pins:List (b_×Obj)) (s:a_) (σ:St) (H:Hp) (x:V) (v vl vu:aC) (lo hi:Option Int) (sl:b_) (Q:VK),Inv X pins σ H s->RelV x v->s.heap.IsSliceOf sl vl vu .none->RY vl lo->RY vu hi->r x lo hi H Q->
  ∃T id,typeLookup (.type T) "__getitem__"=aw (ar (.builtin id))/\s.TypeIs v T/\d_ (eK X.prog X.w) X.A (Sn v (.ref sl)) (EP X pins σ Q) X.xe s
theorem EK.or{r U:V->Option Int->Option Int->Hp->VK->Prop}(h:EK X r)(h':EK X U):EK X (λx lo hi H Q=>r x lo hi H Q\/U x lo hi H Q):=by
 intro pins s σ H x v vl W lo hi Z Q I T hs Y pu q;rcases q with q|q
 ·exact h pins s σ H x v vl W lo hi Z Q I T hs Y pu q
 ·exact h' pins s σ H x v vl W lo hi Z Q I T hs Y pu q
def M8(r:V->Option Int->Option Int->Hp->VK->Prop)(te:TE)(tl th:TO):TE:=λσ H Q=>te σ H λx H1=>tl σ H1 λl H2=>th σ H2 λu H3=>r x l u H3 Q
theorem uZ{r:V->Option Int->Option Int->Hp->VK->Prop}(O:EK X r)(R:PE X e te)(S:PO X lo tl)(W:PO X hi th):PE X (.Subscript e (.Slice lo hi none p2) pos) (M8 r te tl th):=by intro pins s σ H Q I h;refine Subscript_ (dq (R pins s σ H _ I h) λv s1 ⟨x,H1,I1,r1,q1⟩=>?_);refine wpAny_Slice (dq (S pins s1 σ H1 _ I1 q1) λvl s2 ⟨l,H2,I2,pl,q2⟩=>dq (W pins s2 σ H2 _ I2 q2) λvu s3 ⟨u,H3,I3,pu,q3⟩=>?_);rw[evalPart_none];refine Nv ?_;have U:Inv X pins σ H3 {s3 with heap:=s3.heap.push {cls:=.type "slice",data:=.fields #[vl,vu,.none]}}:=I3.kept (t':=s3.toks) λb N q=>Nq _ q;obtain⟨T,id,P,Y,Z⟩:=O pins {s3 with heap:=s3.heap.push {cls:=.type "slice",data:=.fields #[vl,vu,.none]}} σ H3 x v vl vu l u s3.heap.objs.size Q U r1 (Heap.IsSliceOf.new ..) pl pu q3;show d_ (eK X.prog X.w) X.A (subscriptTail e (.Slice lo hi none p2) v (.ref s3.heap.objs.size)) (EP X pins σ Q) X.xe {s3 with heap:=s3.heap.push {cls:=.type "slice",data:=.fields #[vl,vu,.none]}};exact tail_any (ops:=[.ref s3.heap.objs.size,v]) Y P Z (by with_unfolding_all rfl)
def rk(xs:List V)(lo hi:Option Int):List V:=(xs.drop (HT.sIx xs.length 0 lo)).take (HT.sIx xs.length xs.length hi - HT.sIx xs.length 0 lo)
theorem nB(xs:List V)(lo hi:Option Int):(rk xs lo hi).length<=xs.length:=by unfold rk;rw[N5,NO];omega
def Mr(K:dt):V->Option Int->Option Int->Hp->VK->Prop:=λx lo hi H Q=>∃a xs,x= .ref a/\lu K H a xs/\
 ¬ (HT.sIx xs.length 0 lo=0/\HT.sIx xs.length xs.length hi=xs.length)/\∀p,H p=none->Q (.ref p) (upd H p (.tup (rk xs lo hi)))
theorem HK:EK X (Mr X.K):=by
 intro pins s σ H x v vl P lo hi S Q I T hs W pu h;obtain⟨a,xs,rfl,U,hw,q⟩:=h;cases T;obtain⟨its,r,Z,Y⟩:=I.tuple U;have hlen:its.toArray.size=xs.length:=by rw[NG];exact r.length.symm
 refine⟨"tuple",_,PyProof.Rows.slot_tuple_getitem.lookup,Z.typeIs,?_⟩;refine HT.getItem_tuple_cut Z hs W pu (by rw[hlen];exact hw) ?_ (by rw[hlen];exact Y);rw[hlen];refine⟨.ref s.heap.objs.size,_,I.laid (t':=s.toks) (o:=.tup (rk xs lo hi)) (λb R q=>Nq _ q) (Nu _) ?_,rfl,q _ (I.hok.fresh (Nu _))⟩;exact⟨mI (Nz (nB xs lo hi) Y),_,(r.drop (HT.sIx xs.length 0 lo)).take (HT.sIx xs.length xs.length hi - HT.sIx xs.length 0 lo),Rq _ _⟩
def Km(K:dt):R2:=λx y H Q=>∃a b ns ms,x= .ref a/\y= .ref b/\lu K H a (ns.map V.int)/\lu K H b (ms.map V.int)/\Q (.bl (HT.lexLt ns ms)) H
theorem oZ(T:X.A.units<A'):gv X (ip .Lt) (Km X.K):=by intro pins s σ H x y v u Q I L O h;obtain⟨a,b,ns,ms,rfl,rfl,S,Y,q⟩:=h;cases L;cases O;obtain⟨its,U,N,_⟩:=I.tuple S;obtain⟨Z,W,p2,_⟩:=I.tuple Y;have P:n_ its.toArray.toList ns:=Q5 U;have R:n_ Z.toArray.toList ms:=Q5 W;exact HT.lt_tupInts N p2 P R T ⟨.bl (HT.lexLt ns ms),H,I,rfl,q⟩
def Kn(K:dt):R2:=λx y H Q=>∃a b xs ys,x= .ref a/\y= .ref b/\lu K H a xs/\lu K H b ys/\xs≠[]/\xs.length+ys.length<=sizeLine/\
 (ys=[]->Q (.ref a) H)/\(ys≠[]->∀p,H p=none->Q (.ref p) (upd H p (.tup (xs++ys))))
theorem bj.nil_iff{xs:List V}{us:List aC}(r:bj xs us):us=[]↔xs=[]:=by
 cases r with
 |nil=>simp
 |cons _ _=>simp
theorem EL:gv X (t_ .Add) (Kn X.K):=by intro pins s σ H x y v u Q I J O h;obtain⟨a,b,xs,ys,rfl,rfl,P,T,R,W,L,S⟩:=h;cases J;cases O;obtain⟨its,Y,N,_⟩:=I.tuple P;obtain⟨U,Z,p2,_⟩:=I.tuple T;refine HT.cat_tup N p2 (λz=>R (Y.nil_iff.mp z)) (λz=>⟨.ref a,H,I,rfl,L (Z.nil_iff.mp z)⟩) (λz=>?_) (by rw[<-Y.length, <-Z.length];exact W);refine⟨.ref s.heap.objs.size,_,I.laid (t':=s.toks) (o:=.tup (xs++ys)) (λb G q=>Nq _ q) (Nu _) ?_,rfl,S (λw=>z (Z.nil_iff.mpr w)) _ (I.hok.fresh (Nu _))⟩;exact⟨mI (by rw[Nr];exact W),_,Y.append Z,Rq _ _⟩
end
def wV(n:Nat)(i:Int):Option Nat:=if 0<=i then (if i<n then ar i.toNat else none)else if -(n:Int)<=i then ar (i+n).toNat else none
def iI{α:Type}(xs:List α)(i:Int):Option α:=(wV xs.length i).bind λj=>xs[j]?
theorem yh{n:Nat}{i:Int}{j:Nat}(h:wV n i=ar j):Sy i n=ar j/\j<n/\ -(n:Int)<=i/\i<n:=by
 unfold wV at h;by_cases h0:0<=i
 ·rw[if_pos h0]at h;by_cases h1:i<n
  ·rw[if_pos h1]at h;have e:i.toNat=j:=NW h;exact⟨by rw[SL h0 h1,e],by omega,by omega,h1⟩
  ·rw[if_neg h1]at h;cases h
 ·rw[if_neg h0]at h;by_cases h1: -(n:Int)<=i
  ·rw[if_pos h1]at h;have e:(i+n).toNat=j:=NW h;exact⟨by rw[seqIndex_neg (by omega) h1,e],by omega,h1,by omega⟩
  ·rw[if_neg h1]at h;cases h
theorem sY{Z:Type}{xs:List Z}{i:Int}{v:Z}(h:iI xs i=ar v):∃j,Sy i xs.length=ar j/\xs[j]? =ar v/\j<xs.length/\ -(xs.length:Int)<=i/\i<xs.length:=by
 unfold iI at h;cases e:wV xs.length i with
 |none=>rw[e]at h;cases h
 |some j=>
  rw[e]at h;obtain⟨Y,U,X,W⟩:=yh e;exact⟨j,Y,h,U,X,W⟩
def lB(b:Expr):Prop:=∀o i,subscripted b dr o i=operate [o,i] (Sn o i)
def El(X:Cx)(r:R2):Prop:=
 ∀(value slice:Expr) (pins:List (b_×Obj)) (s:a_) (σ:St) (H:Hp) (x y:V) (v u:aC) (Q:VK),Inv X pins σ H s->RelV x v->RelV y u->r x y H Q->
  subscripted slice dr v u=operate [v,u] (Sn v u)->d_ (eK X.prog X.w) X.A (subscriptTail value slice v u) (EP X pins σ Q) X.xe s
def Gy(X:Cx)(id:String)(r:V->List V->Hp->VK->Prop):Prop:=
 ∀(pins:List (b_×Obj)) (s:a_) (σ:St) (H:Hp) (x:V) (xs:List V) (v:aC) (us:List aC) (Q:VK),Inv X pins σ H s->RelV x v->bj xs us->r x xs H Q->
  d_ (eK X.prog X.w) X.A (call (.builtin id) (v::us)) (EP X pins σ Q) X.xe s
section
variable {X:Cx}{a b:Expr}{ta tb:TE}{pos:Pos}
theorem El.or{r Z:R2}(h:El X r)(h':El X Z):El X (λx y H Q=>r x y H Q\/Z x y H Q):=by
 intro value slice pins s σ H x y v u Q I W Y q hs;rcases q with q|q
 ·exact h value slice pins s σ H x y v u Q I W Y q hs
 ·exact h' value slice pins s σ H x y v u Q I W Y q hs
theorem Ko{r:R2}(U:El X r)(T:PE X a ta)(Z:PE X b tb)(hs:lB b):PE X (.Subscript a b pos) (Kd r ta tb):=by intro pins s σ H Q I h;exact Subscript_ (HA T Z I h λv u s2 x y Y W R S q=>U a b pins s2 σ Y x y v u Q W R S q (hs _ _))
def Kq(K:dt):R2:=λx y H Q=>∃p xs i v,x= .ref p/\y= .int i/\jz K H p xs/\iI xs i=ar v/\Q v H
def Kr(K:dt):R2:=λx y H Q=>∃p xs i v,x= .ref p/\y= .int i/\lu K H p xs/\iI xs i=ar v/\Q v H
def HL:R2:=λx y H Q=>∃z i c,x= .str z/\y= .int i/\z.length<=sizeLine/\iI z.cps.toList i=ar c/\Q (.str ⟨#[c]⟩) H
theorem EM:El X (Kq X.K):=by
 intro value slice pins s σ H x y v u Q I J P h hs;obtain⟨p,xs,i,z,rfl,rfl,O,he,q⟩:=h;cases J;obtain⟨t,rfl⟩:=P;obtain⟨its,r,Y,F⟩:=I.list O;obtain⟨j,Z,L,G,S,R⟩:=sY he;obtain⟨w,T,W⟩:=r.get L;have N:=r.length;have E:=mM;have fin:EP X pins σ Q w s:=⟨z,H,I,W,q⟩;by_cases h0:0<=i
 ·have U:i.toNat=j:=by
   rw[SL h0 R]at Z;exact NW Z
  exact item_listR Y.isList h0 (by omega) (by rw[U];simpa using T) fin hs
 ·have U:(i+(its.toArray.size:Int)).toNat=j:=by
   rw[seqIndex_neg (by omega) S]at Z;rw[NG, <-N];exact NW Z
  exact subscriptTail_builtinR (x:=w) Y.isList.typeIs slot_list_getitem.lookup
   (wpAny_getItem_list_neg (Q:=λr s'=>r=w/\EP X pins σ Q r s') Y.isList (by omega) (by rw[NG]<;>omega) (by omega) (by rw[U];simpa using T) ⟨rfl,fin⟩) hs
theorem HM:El X (Kr X.K):=by
 intro value slice pins s σ H x y v u Q I O W h hs;obtain⟨p,xs,i,z,rfl,rfl,S,he,q⟩:=h;cases O;obtain⟨t,rfl⟩:=W;obtain⟨its,r,Y,G⟩:=I.tuple S;obtain⟨j,U,P,J,N,L⟩:=sY he;obtain⟨w,T,Z⟩:=r.get P;have R:=r.length;have F:=mM;have fin:EP X pins σ Q w s:=⟨z,H,I,Z,q⟩;exact subscriptTail_builtinR (x:=w) Y.typeIs slot_tuple_getitem.lookup
  (getItem_tuple (j:=j) (Q:=λr s'=>r=w/\EP X pins σ Q r s') Y (by omega) (by omega) (by rw[NG, <-R];exact U) (by simpa using T) ⟨rfl,fin⟩) hs
theorem Bt:El X HL:=by
 intro value slice pins s σ H x y v u Q I R T h hs;obtain⟨z,i,c,rfl,rfl,P,he,q⟩:=h;obtain⟨t,rfl⟩:=R;obtain⟨t',rfl⟩:=T;obtain⟨j,Z,S,N,Y,U⟩:=sY he;have W:z.cps.toList.length=z.length:=by simp[Str.length]
 rw[W]at Z Y U;have O:=mM;exact tail_any (PQ s z t) slot_str_getitem.lookup (getItem_str (c:=c) (by have e1:decide (i< -(2 ^ 63:Int))=false:=NQ (by omega);have e2:decide (i ≥ 2 ^ 63)=false:=NQ (by omega);rw[e1,e2,Bool.or_false]) (by rw[Z];simpa using S) ⟨.str ⟨#[c]⟩,H,I.tok _,⟨_,rfl⟩,q⟩) hs
def MS(K:dt):R2:=λx y H Q=>Kq K x y H Q\/Kr K x y H Q\/HL x y H Q
theorem HN:El X (MS X.K):=EM.or (HM.or Bt)
theorem wW(its:List aC)(n j:Nat)(u:aC):mh (·.setIfInBounds j u) {cls:=.type "list",data:=.seq its.toArray n}={cls:=.type "list",data:=.seq (its.set j u).toArray n}:=by simp[mh]
theorem Inv.lst{Z:List (b_×Obj)}{Y:St}{H:Hp}{s:a_}{p:b_}{xs:List V}(I:Inv X Z Y H s)(h:H p=ar (.lst xs)):
  ∃(its:List aC) (n:Nat),bj xs its/\s.heap.get? p=ar {cls:=.type "list",data:=.seq its.toArray n}/\xs.length<=sizeLine:=by
 obtain⟨z,its,n,r,e⟩:=I.hok p _ h;exact⟨its,n,r,e,z⟩
theorem Inv.lstUpd{Z:List (b_×Obj)}{W:St}{H:Hp}{s:a_}{p:b_}{xs ys:List V}{its its':List aC}{n Y:Nat}{f:Obj->Obj}(I:Inv X Z W H s)(h:H p=ar (.lst xs))
  (R:s.heap.get? p=ar {cls:=.type "list",data:=.seq its.toArray n}) (U:f {cls:=.type "list",data:=.seq its.toArray n}={cls:=.type "list",data:=.seq its'.toArray Y}) (r:bj ys its') (S:ys.length<=sizeLine) (t:Nat):
  Inv X Z W (upd H p (.lst ys)) {s with heap:=s.heap.update p f,toks:=t}:=by
 have e:(s.heap.update p f).get? p=ar {cls:=.type "list",data:=.seq its'.toArray Y}:=by rw[Oy f R (by rw[U]<;>rfl),U]
 refine I.write (x:=p) (e:=p) (by rw[h];trivial) (.inl rfl) (λb u T q=>(Oa _ _ (j' T)).trans q) ⟨_,e⟩ ?_;exact⟨S,its',Y,r,e⟩
def Gz:V->V->V->Hp->(Hp->Prop)->Prop:=λo i v H Q=>∃p xs k j,o= .ref p/\i= .int k/\H p=ar (.lst xs)/\wV xs.length k=ar j/\Q (upd H p (.lst (xs.set j v)))
theorem set_list:J7 X Gz:=by
 intro pins s σ H o i v F E u Q I L J N h;obtain⟨p,xs,k,j,rfl,rfl,O,G,q⟩:=h;cases L;obtain⟨t,rfl⟩:=J;obtain⟨its,n,r,Y,K⟩:=I.lst O;obtain⟨Z,B,R,S⟩:=yh G;have T:=r.length;have C:=mM;have P:Inv X pins σ (upd H p (.lst (xs.set j v))) {s with heap:=s.heap.update p (mh (·.setIfInBounds j u))}:=
  I.lstUpd O Y (wW its n j u) (r.set N j) (by rw[PY];exact K) s.toks
 by_cases h0:0<=k
 ·have U:k.toNat=j:=by
   rw[SL h0 S]at Z;exact NW Z
  exact W.ki_setAt Y h0 (by omega) (by rw[NG, <-T];exact S) (by rw[U];exact⟨_,P,q⟩)
 ·have U:(k+(its.toArray.size:Int)).toNat=j:=by
   rw[seqIndex_neg (by omega) R]at Z;rw[NG, <-T];exact NW Z
  exact W.ki_setBack Y (by omega) (by rw[NG, <-T];exact R) (by omega) (by rw[U];exact⟨_,P,q⟩)
theorem sZ(Y Z:Option Int)(n:Nat):(z4 Y Z none n).1=((HT.sIx n 0 Y:Nat):Int)/\(z4 Y Z none n).2.1=((HT.sIx n n Z:Nat):Int)/\(z4 Y Z none n).2.2=1:=by
 refine⟨?_,?_,rfl⟩
 ·cases Y with
  |none=>simp[z4,HT.sIx]
  |some i=>
   simp only[z4,HT.sIx,Option.getD_none,show(1:Int)>0 by decide,if_true];by_cases h:i<0
   ·simp only[h,if_true]<;>omega
   ·simp only[h,if_false]<;>omega
 ·cases Z with
  |none=>simp[z4,HT.sIx]
  |some i=>
   simp only[z4,HT.sIx,Option.getD_none,show(1:Int)>0 by decide,if_true];by_cases h:i<0
   ·simp only[h,if_true]<;>omega
   ·simp only[h,if_false]<;>omega
theorem rl(its:List aC)(Z Y:Option Int):slicePick its.toArray Z Y none=((its.drop (HT.sIx its.length 0 Z)).take (HT.sIx its.length its.length Y - HT.sIx its.length 0 Z)).toArray:=by obtain⟨T,U,W⟩:=sZ Z Y its.toArray.size;unfold slicePick;rw[T,U,W];simp only[sliceRange_one,pick_run,n3]<;>rfl
def Ms(K:dt):V->Option Int->Option Int->Hp->VK->Prop:=λx lo hi H Q=>∃a xs,x= .ref a/\jz K H a xs/\∀p,H p=none->Q (.ref p) (upd H p (.lst (rk xs lo hi)))
theorem EN:EK X (Ms X.K):=by intro pins s σ H x v vl O lo Z R Q I S hs W pu h;obtain⟨a,xs,rfl,T,q⟩:=h;cases S;obtain⟨its,r,Y,U⟩:=I.list T;have hlen:=r.length;refine⟨"list",_,slot_list_getitem.lookup,Y.isList.typeIs,?_⟩;refine wpAny_getItem_list_slice Y.isList hs W pu .none (by simp) ?_ (by rw[NG]<;>omega);rw[rl, <-hlen];refine⟨.ref s.heap.objs.size,_,I.laid (t':=s.toks) (o:=.lst (rk xs lo Z)) (λb P q=>Nq _ q) (Nu _) ?_,rfl,q _ (I.hok.fresh (Nu _))⟩;exact⟨Nz (nB xs lo Z) U,_,0,(r.drop (HT.sIx xs.length 0 lo)).take (HT.sIx xs.length xs.length Z - HT.sIx xs.length 0 lo),NA _ rfl⟩
theorem tj:cY X (.builtin "len") (λxs H Q=>∃p ys,xs=[.ref p]/\(jz X.K H p ys\/lu X.K H p ys)/\Q (.int ys.length) H):=by
 intro pins s σ H xs us Q I r h;obtain⟨p,ys,rfl,Z,q⟩:=h;obtain⟨u,rfl,T⟩:=vals1 r;cases T;have S:=mM;rcases Z with Z|Z
 ·obtain⟨its,W,Y,U⟩:=I.list Z;have hlen:=W.length;exact Calls.call_len_list Y.isList (by simp only[n3]<;>omega) ⟨.int ys.length,H,I.tok _,⟨s.toks+1,by rw[NG,hlen]⟩,q⟩
 ·obtain⟨its,W,Y,U⟩:=I.tuple Z;have hlen:=W.length;exact len_tuple Y (by simp only[n3]<;>omega) ⟨.int ys.length,H,I.tok _,⟨s.toks+1,by rw[NG,hlen]⟩,q⟩
theorem tm:cY X (.builtin "len") (λxs H Q=>∃z,xs=[.str z]/\z.length<=sizeLine/\Q (.int z.length) H):=by intro pins s σ H xs us Q I r h;obtain⟨z,rfl,Z,q⟩:=h;obtain⟨u,rfl,t,rfl⟩:=vals1 r;have Y:=mM;exact len_str (by omega) ⟨.int z.length,H,I.tok _,⟨_,rfl⟩,q⟩
theorem cY.or{f:aC}{r Z:List V->Hp->VK->Prop}(h:cY X f r)(h':cY X f Z):cY X f (λxs H Q=>r xs H Q\/Z xs H Q):=by
 intro pins s σ H xs us Q I rs q;rcases q with q|q
 ·exact h pins s σ H xs us Q I rs q
 ·exact h' pins s σ H xs us Q I rs q
theorem tq:cY X (.type "list") (λxs H Q=>∃p ys,xs=[.ref p]/\(jz X.K H p ys\/lu X.K H p ys)/\∀l,H l=none->Q (.ref l) (upd H l (.lst ys))):=by
 intro pins s σ H xs us Q I r h;obtain⟨p,ys,rfl,T,q⟩:=h;obtain⟨u,rfl,O⟩:=vals1 r;cases O;have fin:∀(its:List aC),bj ys its->ys.length<=sizeLine->∀(h':fg) (Z:Nat),(∀b o',s.heap.get? b=ar o'->h'.get? b=ar o')->
   h'.get? s.heap.objs.size=ar {cls:=.type "list",dict:=none,data:=.seq its.toArray Z,slots:= #[]}->EP X pins σ Q (.ref s.heap.objs.size) {s with heap:=h'}:=λits Y U h' Z W e=>
  ⟨.ref s.heap.objs.size,_,I.laid (t':=s.toks) W (Nu _) (show bh X.prog X.w _ h' _ (.lst ys)from⟨U,its,Z,Y,e⟩),rfl,q _ (I.hok.fresh (Nu _))⟩
 rcases T with T|T
 ·obtain⟨its,Y,S,U⟩:=I.list T;have hlen:=Y.length;obtain⟨o,P,R,n,hd⟩:=S.isList;exact call_list_seq p (.inl rfl) P R hd (λh' Z W e=>fin its Y U h' Z W e) (by simp only[n3]<;>omega)
 ·obtain⟨its,Y,S,U⟩:=I.tuple T;have hlen:=Y.length;obtain⟨o,P,R,n,hd⟩:=S;exact call_list_seq p (.inr rfl) P R hd (λh' Z W e=>fin its Y U h' Z W e) (by simp only[n3]<;>omega)
theorem rm:cY X (.type "tuple") (λxs H Q=>∃p ys,xs=[.ref p]/\((jz X.K H p ys/\∀l,H l=none->Q (.ref l) (upd H l (.tup ys)))\/(lu X.K H p ys/\Q (.ref p) H))):=by
 intro pins s σ H xs us Q I r h;obtain⟨p,ys,rfl,h⟩:=h;obtain⟨u,rfl,R⟩:=vals1 r;cases R;rcases h with⟨hq,q⟩|⟨hq,q⟩
 ·obtain⟨its,Y,Z,W⟩:=I.list hq;have hlen:=Y.length;refine call_tuple_list Z.isList (λh' S=>?_) (by simp only[n3]<;>omega);have U:Inv X pins σ H {s with heap:=h'}:=I.kept (t':=s.toks) S;have T:Inv X pins σ (upd H h'.objs.size (.tup ys)) {s with heap:=h'.push {cls:=.type "tuple",data:=.seq its.toArray}}:=
   U.laid (t':=s.toks) (λb o e=>Nq _ e) (Nu _) (show bh X.prog X.w _ _ _ (.tup ys)from⟨mI W,its,Y,Rq _ _⟩)
  exact⟨.ref h'.objs.size,_,T,rfl,q _ (U.hok.fresh (Nu _))⟩
 ·obtain⟨its,Y,Z,W⟩:=I.tuple hq;exact call_tuple_same Z ⟨.ref p,H,I,rfl,q⟩
def Mt(K:dt)(T:String)(x:V)(H:Hp):Prop:=match x with
 | .str _=>T="str"
 | .int _=>T="int"
 | .ref p=>(T="list"/\∃xs,jz K H p xs)\/(T="tuple"/\∃xs,H p=ar (.tup xs))\/
   (T="dict"/\((∃kvs,H p=ar (.dK kvs))\/∃kvs,H p=ar (.dT kvs)))\/(T="set"/\∃S n,H p=ar (.set S n))
 |_=>False
theorem HP{Z:List (b_×Obj)}{U:St}{H:Hp}{s:a_}{T:String}{x:V}{v:aC}(I:Inv X Z U H s)(r:RelV x v)(Y:Mt X.K T x H):
  s.TypeIs v T/\∀a,v= .ref a->∃ob,s.heap.get? a=ar ob/\ob.dict=none:=by
 cases x with
 |str z=>
  obtain⟨t,rfl⟩:=r;cases (show T="str" from Y);exact⟨PQ s z t,λ_ e=>nomatch e⟩
 |int i=>
  obtain⟨t,rfl⟩:=r;cases (show T="int" from Y);exact⟨typeIs_int s i t,λ_ e=>nomatch e⟩
 | ref p=>
  cases r;rcases Y with⟨rfl,xs,hq⟩|⟨rfl,xs,hk⟩|⟨rfl,hk⟩|⟨rfl,S,n,hk⟩
  ·obtain⟨its,_,W,_⟩:=I.list hq;refine⟨W.isList.typeIs,λa e=>?_⟩;cases e;obtain⟨o,n,e,c,hd,_⟩:=W;exact⟨o,e,hd⟩
  ·obtain⟨⟨_,o,e,hd⟩,its,_,pt⟩:=(show bh X.prog X.w H s.heap p (.tup xs)from I.hok p _ hk);refine⟨pt.typeIs,λa e2=>?_⟩;cases e2;exact⟨o,e,hd⟩
  ·have z:∃o,s.heap.get? p=ar o/\o.ExactDict:=by
    rcases hk with⟨kvs,hk⟩|⟨kvs,hk⟩
    ·obtain⟨_,_,_,_,o,_,_,e,ex,_⟩:=I.hok p _ hk;exact⟨o,e,ex⟩
    ·obtain⟨_,_,_,_,o,_,_,e,ex,_⟩:=I.hok p _ hk;exact⟨o,e,ex⟩
   obtain⟨o,e,ex⟩:=z;refine⟨⟨o,e,ex.1⟩,λa e2=>?_⟩;cases e2;exact⟨o,e,ex.2.1⟩
  ·obtain⟨o,_,_,_,e,ex,_⟩:=I.hok p _ hk;refine⟨⟨o,e,ex.1⟩,λa e2=>?_⟩;cases e2;exact⟨o,e,ex.2.1⟩
 |_=>exact j1 Y
def M9(K:dt)(T:String)(r:V->List V->Hp->VK->Prop)(to:TE)(t:TA):TE:=λσ H Q=>to σ H λx H1=>Mt K T x H1/\t σ H1 λxs H2=>r x xs H2 Q
variable {o e:Expr}{es:List Expr}{to:TE}{t:TA}{name:Str}{apos cpos:Pos}{T id:String}{r:V->List V->Hp->VK->Prop}
theorem GA(L:PlainAttrs T)(S:Slot T name id)(R:T5 (.builtin id)=aw (.type "method_descriptor"))(O:Gy X id r)(G:PE X o to)(J:PA X (e::es) t)
  (W:j7 o name X.env (g6 o X.env)=g6 o X.env:=by rfl)
  (U:((u' cpos (dV (e::es) X.env)).all (λx=> !x.1) && (backToKw cpos (keywordEach [] X.env)).all (λx=>x.1.isSome)
   && decide ((e::es).length+([]:List SR).length+(if ([]:List SR).isEmpty then 0 else 1)<30))=true:=by rfl)
  (Y:(apos.endLine==cpos.line)=true:=by rfl) (hs:dV (e::es) X.env=(dr,g6 e X.env)::dV es X.env:=by rfl) (Z:(u' cpos (dV es X.env)).any (·.1)=false:=by rfl):
  PE X (.Call (.Attribute o name apos) (e::es) [] cpos) (M9 X.K T r to t):=by
 intro pins s σ H Q I h;refine wpAny_Call_method_late W U Y rfl (dq (G pins s σ H _ I h) λv s1 ⟨x,H1,I1,r1,ty,q1⟩=>?_);obtain⟨N,F⟩:=HP I1 r1 ty;refine⟨T,id,L,S,R,N,F,?_⟩;have P:=J cpos pins s1 σ H1 _ I1 q1;rw[hs]at P⊢;refine Calls.callWith_builtin (by show(dr||(u' cpos (dV es X.env)).any (·.1))=dr;rw[Z]<;>rfl) (Calls.evalArgs_plain ?_);exact dq P λus s2 ⟨vs,H2,I2,r2,q2⟩=>O pins s2 σ H2 x vs v us Q I2 r1 r2 q2
end
def MT(X:Cx)(id:String)(r:V->List V->Hp->VK->Prop):Prop:=
 ∀(pins:List (b_×Obj)) (s:a_) (σ:St) (H:Hp) (x:V) (xs:List V) (v:aC) (us:List aC) (Q:VK),Inv X pins σ H s->RelV x v->bj xs us->r x xs H Q->
  d_ (eK X.prog X.w) X.A (call (.builtin id) (v::us)) (EP X pins σ Q) X.xe s
theorem bj.one:∀{x:V} {us:List aC},bj [x] us->∃u,us=[u]/\RelV x u
 |_,_,.cons r .nil=>⟨_,rfl,r⟩
theorem bj.eraseIdx:∀{xs:List V} {us:List aC} (i:Nat),bj xs us->bj (xs.eraseIdx i) (us.eraseIdx i)
 |_,_,_,.nil=>.nil
 |_,_,0,.cons _ t=>t
 |_,_,i+1,.cons r t=>.cons r (bj.eraseIdx i t)
theorem rS{Z:Type}:∀(l:List Z) (i:Nat),(l.eraseIdx i).length<=l.length
 |[],_=>Nu _
 |_::_,0=>P9 _
 |_::r,i+1=>PF (rS r i)
section
variable {X:Cx}{pins:List (b_×Obj)}{σ:St}{H:Hp}{s:a_}{l b:b_}{xs ys zs:List V}
theorem Inv.lset{its its':List aC}{n:Nat}{f:Array aC->Array aC}{t':Nat}(I:Inv X pins σ H s)(S:H l=ar (.lst xs))
  (e:s.heap.get? l=ar {cls:=.type "list",data:=.seq its.toArray n}) (T:f its.toArray=its'.toArray) (W:bj ys its') (Y:ys.length<=sizeLine):
  Inv X pins σ (upd H l (.lst ys)) {s with heap:=s.heap.update l (mh f),toks:=t'}:=by
 have q:=PySem.IsL.update e f;rw[T]at q;refine I.write (x:=l) (e:=l) (by rw[S];exact trivial) (.inl rfl) (λR u Z U=>(Oa s.heap (mh f) (j' Z)).trans U) ⟨_,q⟩ ?_;exact⟨Y,its',_,W,q⟩
theorem Inv.lnew{its:List aC}{t':Nat}(I:Inv X pins σ H s)(Z:bj ys its)(Y:ys.length<=sizeLine):
  Inv X pins σ (upd H s.heap.objs.size (.lst ys)) {s with heap:=s.heap.push {cls:=.type "list",data:=.seq its.toArray},toks:=t'}:=
 I.laid (λ_ _ q=>Nq _ q) (Nu _) ⟨Y,its,0,Z,NA _ rfl⟩
theorem Inv.fresh(I:Inv X pins σ H s):H s.heap.objs.size=none:=I.hok.fresh (Nu _)
theorem Inv.lstM(I:Inv X pins σ H s)(Z:H l=ar (.lst xs)):xs.length<=sizeLine/\∃(its:List aC) (n:Nat),bj xs its/\xs.length=its.length/\s.heap.get? l=ar {cls:=.type "list",data:=.seq its.toArray n}:=by obtain⟨z,its,n,r,e⟩:=I.hok l _ Z;exact⟨z,its,n,r,r.length,e⟩
theorem Bu{n:Nat}(h:n<=sizeLine):y2 n=false:=by unfold y2;exact NQ (by omega)
end
section
variable {X:Cx}
def yi:V->List V->Hp->VK->Prop:=λx vs H Q=>∃l xs y,x= .ref l/\vs=[y]/\H l=ar (.lst xs)/\xs.length<sizeLine/\Q .non (upd H l (.lst (xs++[y])))
theorem rT:MT X "list.append" yi:=by intro pins s σ H x vs v us Q I U W h;obtain⟨l,xs,y,rfl,rfl,Z,T,q⟩:=h;cases U;obtain⟨u,rfl,Y⟩:=W.one;obtain⟨z,its,n,r,S,e⟩:=I.lstM Z;refine Qa F.slot_list_append ⟨_,e,rfl⟩ F.entry_list_append (F.args_list_append_2 _ _) (PySem.list_append l its.toArray n u (by rw[NG];omega)) ⟨e,?_⟩;refine⟨.non,_,I.lset (its':=its++[u]) Z e (by simp) (r.append (.cons Y .nil)) ?_,rfl,q⟩;rw[Nr,Qi];omega
def Bv:V->List V->Hp->VK->Prop:=λx vs H Q=>∃l xs i k y,x= .ref l/\vs=[.int i]/\H l=ar (.lst xs)/\ -(2 ^ 63)<=i/\i<2 ^ 63/\Sy i xs.length=ar k/\xs[k]? =ar y/\Q y (upd H l (.lst (xs.eraseIdx k)))
theorem Bw:MT X "list.pop" Bv:=by
 intro pins s σ H x vs v us Q I N U h;obtain⟨l,xs,i,k,y,rfl,rfl,Y,T,O,P,S,q⟩:=h;cases N;obtain⟨u,rfl,W⟩:=U.one;obtain⟨t,rfl⟩:=W;obtain⟨z,its,n,r,R,e⟩:=I.lstM Y;obtain⟨w,hw,Z⟩:=r.get S;refine Qa F.slot_list_pop ⟨_,e,rfl⟩ F.entry_list_pop (F.args_list_pop_2 _ _)
  (MeetsSeq.list_pop_at l its.toArray n i t k w (fitsIndex_both T O) (by rw[NG, <-R];exact P) (by rw[<-NY];exact hw) (by rw[NG];omega)) ⟨e,?_⟩
 refine⟨y,_,I.lset (its':=its.eraseIdx k) Y e ?_ (r.eraseIdx k) ?_,Z,q⟩
 ·show its.toArray.eraseIdxIfInBounds k=(its.eraseIdx k).toArray;rw[List.eraseIdxIfInBounds_toArray]
 ·have:=rS xs k;omega
end
section
variable {prog:eb}{w:er}{A:g_}{E:aC->a_->Prop}{s:a_}
end
section
variable {X:Cx}
end
end L2
namespace Att
open PySem PySem.W PySem.Calls PyProof.Rows
theorem nY{P:Rx}{h:fg}:∀(ns:List Int) (vs:List aC),WellAll P h vs (ns.map WData.int)->n_ vs ns:=by
 intro ns
 induction ns with
 |nil=>
  intro vs w;rw[OW]at w;cases w;exact .nil
 | cons n ns ih=>
  intro vs w;rw[NI]at w;cases w with
  |cons a b=>
   cases a;exact .cons _ _ (ih _ b)
theorem Aa{l:Uc}{n:Nat}(Q:l.most=ar n){P:Rx}{h:fg}{args:List WData}{Z:List aC}
  (Y:l.row.toRowW.claim.pre args=c_) (U:WellAll P h Z args):
  ∃a vs ns,Z=[ee a]/\args=[WData.list (ns.map WData.int)]/\h.get? a=ar {cls:=.type "list",data:=.seq vs.toArray}/\n_ vs ns/\ns.length<=n:=by
 have gW:WShape.hasAll [] args [.list .int]=true:=(pre_splitW Y).1;have T:l.pre.holds [] {args:=args}=true:=(pre_splitW Y).2;obtain⟨d,r,rfl,S,R⟩:=hasAllW_cons gW;obtain rfl:=hasAllW_nil R;obtain⟨xs,rfl,N⟩:=hasW_list S;obtain⟨ns,rfl⟩:=items_int N;have hlen:ns.length<=n:=by
  unfold OpenLaw.pre at T;have X:(WTm.not (.lt (.lit (.int (n:Int))) (.len (.arg 0)))).holds [] {args:=[.list (ns.map .int)]}=true:=by have X:=(holds_andW T).1;rw[Q]at X;exact X
  have W:=condW_of X (w_not (w_lt w_lit (w_len_list (w_arg rfl))));rw[Nt]at W;refine Qo λq=>?_;have O:(n:Int)<((ns.length:Nat):Int):=by omega
  first
   |(rw[NJ O]at W;exact absurd W (by decide))
   |(simp at W;omega)
 cases U with
 |cons w1 w2=>
  cases w2;cases w1 with
  |list ho hall=>exact⟨_,_,ns,rfl,rfl,ho,nY ns _ hall,hlen⟩
theorem Ab(l:Uc)(args:List WData):l.row.toRowW.claim.post args (.bool c_) args=true:=
 postW_of (r:=l.row.toRowW) (X:=(c_==c_))
  (show WShape.has [] (.bool c_) .bool=c_ by first|rfl|decide|simp[WShape.has,WShape.arms,WShape.armsAll])
  (show(WTm.eq .res (.lit (.bool c_))).value [] {args:=args,res:=ar (.bool c_),after:=args}=ar (.bool (c_==c_))from w_eq_bool (w_res rfl) w_lit) rfl
theorem attach_call{l:Uc}{n:Nat}{q:eb}{loose:List Str}{XP:(Str->Option aC)->fg->Prop}{YP:er->fg->Prop}{d:T6}
  (z:l.most=ar n) (O:d.params.defaults=[])
  (U:∀(w:er) (s₀ Z:a_) (S N:Str->Option aC) (T:b_) (o:Obj) (pm cd doc:aC) (a:b_) (vs:List aC) (ns:List Int),
   Ground q loose [] XP w s₀ S N Z.heap->YP w Z.heap->
   Z.heap.get? T=ar o->o.data= .func (docDef d.name d.params d.body d.scope pm cd doc)->Z.heap.CodeRec cd d.name->S d.name=ar (.ref T)->
   Z.heap.get? a=ar {cls:=.type "list",data:=.seq vs.toArray}->n_ vs ns->ns.length<=n->Z.gens= #[]->
   K_ (eK l.prog w) B_ (.call (.ref T) ⟨[.ref a],[]⟩) (λr s'=>r= .ok (.ret (.bool c_))/\OldK Z.heap s'.heap/\s'.os=Z.os/\D' s'.gens) Z):
  WalkO q loose XP YP l.row.toRowW d [] (λf vs=>PySem.call f vs):=by
 intro w s₀ Z S N G Y T o pm cd doc C kV H hd Q L P B args vals as W K J R E;obtain rfl:C= .none:=Dflts.none L O;obtain rfl:kV= .none:=Dflts.noKw L;obtain⟨a,vs,ns,rfl,rfl,X,hints,hlen⟩:=Aa z W R;refine enter_call (Pq (U w s₀ Z S N T o pm cd doc a vs ns G Y H (fd_plain hd) Q P X hints hlen B) λr s' A=>?_);obtain⟨rfl,y,F,I⟩:=A;exact⟨.inl ⟨.bool c_,.bool c_,[],rfl,λ_=>rfl,.bool c_,Ab l _,λ_=>⟨List.Pairwise.nil,λ_ hm=>(nomatch hm)⟩⟩,y,F,I⟩
section
variable {prog:eb}{w:er}{A:g_}{E:aC->a_->Prop}{s:a_}{K:Uj}
def ledger(h:fg)(L d:b_):List (b_×Obj):=(ey h.objs.size).filterMap λa=>if a=L\/a=d then none else (h.get? a).map λo=>(a,o)
end
end Att
namespace L2
open PySem PySem.Spec PyProof.Rows
theorem jY:∀{vs:List aC} {ns:List Int},n_ vs ns->bj (ns.map V.int) vs
 |_,_,.nil=>.nil
 |_,_,.cons n t h=>.cons ⟨t,rfl⟩ (jY h)
def HQ(H:Hp):Prop:=∀b,H b=none\/∃o xs,H b=ar (.frz o (.lst xs))
theorem Bx{P:eb}{w:er}{K:dt}{J E:Str->Option aC}{CX:A9}{k:Nat}{t a:b_}{g:f'}{x:Str}{sp:Sp}{Z:a_}{vs:List aC}{ns:List Int}
  (KX:K.In Z.heap) (S:Z.heap.Ns f_ J) (X:Z.heap.Ns y_ E) (B:∀x:Str,x≠"__name__"->E x=la x) (L:Z.heap.NoLimit) (hg:Z.gens= #[])
  (G:Z.heap.get? a=ar {cls:=.type "list",data:=.seq vs.toArray}) (l:n_ vs ns) (c:ns.length<=sizeLine) (hr:Room k B_)
  (F:∀base:fg,K.In base->base.Ns f_ J->FnOk P w K J base CX k t g [x] sp) (T:∀(s:a_) (u:aC),Q8 s g ⟨[u],[]⟩ [(x,u)])
  (A:∀H:Hp,HQ H->jz K H a (ns.map V.int)->sp [.ref a] H (λv _=>v= .bl c_) λ_ _ _=>False)
  (C:∀H e s',CX [] H Z (λ_ _ _=>False) e s'->False):
  K_ (eK P w) B_ (.call (.ref t) ⟨[.ref a],[]⟩) (λr s'=>r= .ok (.ret (.bool c_))/\OldK Z.heap s'.heap/\s'.os=Z.os/\D' s'.gens) Z:=by
 have i:=jY l;have I:=l.length;have core:∀H:Hp,HQ H->jz K H a (ns.map V.int)->gh P w H Z.heap->(∀b,H b≠none->b=a)->(H a≠none->K.lookup a=none)->
   K_ (eK P w) B_ (.call (.ref t) ⟨[.ref a],[]⟩) (λr s'=>r= .ok (.ret (.bool c_))/\OldK Z.heap s'.heap/\s'.os=Z.os/\D' s'.gens) Z:=by
  intro H f hS N j hK;have Y:∀{b:b_} {o:Obj},Z.heap.get? b=ar o->H b=none->(kq Z.heap H).get? b=ar o:=λe n=>lj e n;have p:∀{b:b_} {o:Obj} {es:Array DictEntry} {ep:Nat},Z.heap.get? b=ar o->o.data= .dict es ep->H b=none:=λ{b o es ep} e d=>by
   cases q:H b with
   |none=>rfl
   |some u=>
    have y:b=a:=j b (by rw[q];simp);subst y;rw[G]at e;cases e;have d':Data.seq vs.toArray _=Data.dict es ep:=d;cases d'
  have U:∀{b:b_} {m:Str->Option aC},Z.heap.Ns b m->(kq Z.heap H).Ns b m:=λ{b m} ⟨o,es,ep,e,d,r⟩=>⟨o,es,ep,Y e (p e d),d,r⟩;have O:K.In (kq Z.heap H):=λb o e=>Y (KX b o e) (by
   cases q:H b with
   |none=>rfl
   |some u=>
    have y:b=a:=j b (by rw[q];simp);subst y;rw[hK (by rw[q];simp)]at e;cases e)
  have hM:Mod K J (kq Z.heap H):=⟨O,U S,⟨E,U X,B⟩,let ⟨mc,h1,h2⟩:=L;⟨mc,U h1,h2⟩⟩;have e0:aI P w K J (kq Z.heap H) B_ [] Z H:=⟨rfl,hM,λb o e=>sV e,PR (mJ _ _),trivial,λb X=>absurd (show b∈([]:List b_)from X) (by simp),N,.of_eq hg⟩;refine Pq ((F _ O (U S)).run B_ [] Z H ⟨[.ref a],[]⟩ [.ref a] [.ref a] _ _ hr e0 (T Z (.ref a)) (.cons rfl .nil) (A H f hS)) λr s' h=>?_;cases r with
  |error e=>exact(C H e s' h).elim
  | ok fl=>
   cases fl with
   |next=>exact j1 h
   |brk=>exact j1 h
   |cont=>exact j1 h
   | ret u=>
    obtain⟨v,H',os,bare,un,R,r',q⟩:=h;have q':v= .bl true:=q;subst q';obtain rfl:u=u_ true:=r';refine⟨rfl,OldK.of_keep λb o e=>?_,os,bare⟩;cases q:H b with
    |none=>exact un.keep b o e q (by intro z;exact absurd (show b∈([]:List b_)from z) (by simp)) (by simp)
    | some u=>
     rcases f b with z|⟨ob,xs,z⟩
     ·rw[q]at z;cases z
     ·have z2:=un.frzs b ob _ z;obtain⟨e1,_⟩:=N b _ z;obtain⟨e2,_⟩:=R b _ z2;rw[e]at e1;cases e1;exact e2
 cases hk:K.lookup a with
 |some o=>
  have e:=KX a o hk;rw[G]at e;cases e;refine core (λ_=>none) (λ_=>.inl rfl) (.inr ⟨_,vs.toArray,_,hk,rfl,rfl,rfl,by rw[NG,I];exact c,by simpa using i⟩) (λb u z=>by have Q:(none:Option HO)=ar u:=z;cases Q) (λb z=>absurd rfl z) λz=>absurd rfl z
 | none=>
  refine core (λb=>if b=a then ar (.frz {cls:=.type "list",data:=.seq vs.toArray} (.lst (ns.map V.int)))else none) (λb=>?_) (.inl (.inr ⟨{cls:=.type "list",data:=.seq vs.toArray},if_pos rfl⟩)) (λb u z=>?_) (λb z=>?_) λ_=>hk
  ·by_cases X:b=a
   ·exact .inr ⟨_,_,if_pos X⟩
   ·exact .inl (if_neg X)
  ·by_cases X:b=a
   ·have Q:=(if_pos X).symm.trans z;cases Q;subst X;exact⟨G,by rw[Nt];exact c,vs,_,i,G⟩
   ·have Q:=(if_neg X).symm.trans z;cases Q
  ·by_cases X:b=a
   ·exact X
   ·exact absurd (if_neg X) z
abbrev Nn{K:dt}{h:fg}(_:K.In h):W.Frag:=K
theorem LF{l:Tn}{n k:Nat}{q:eb}{loose:List Str}{XP:(Str->Option aC)->fg->Prop}{YP:er->fg->Prop}{d:T6}{K:Rx->dt}{L:er->A9}{sp:er->Sp}{x:Str}
  (r:l.most=ar n) (R:n<=sizeLine) (O:d.params.defaults=[]) (A:Room k B_)
  (E:∀(w:er) (h:fg),YP w h->(K w.params).In h)
  (F:∀(w:er) (Z:Str->Option aC) (S:b_) (h:fg),(K w.params).In h->h.Ns f_ Z->Z d.name=ar (.ref S)->
   ∃fd:f',(∀(s:a_) (u:aC),Q8 s fd ⟨[u],[]⟩ [(x,u)])/\
    ∀base:fg,(K w.params).In base->base.Ns f_ Z->FnOk l.prog w (K w.params) Z base (L w) k S fd [x] (sp w))
  (N:∀(w:er) (H:Hp) (a:b_) (ns:List Int),ns.length<=n->HQ H->jz (K w.params) H a (ns.map V.int)->sp w [.ref a] H (λv _=>v= .bl c_) λ_ _ _=>False)
  (Q:∀(w:er) (H:Hp) (s:a_) (e:aC) (s':a_),L w [] H s (λ_ _ _=>False) e s'->False):
  Ud q loose XP YP l.row.toRowW d [] (λf vs=>PySem.call f vs):=by
 refine Att.attach_call r O λw s₀ U Z m S o pm cd doc a vs ns G Y p hd B P X hints hlen y=>?_;have J:=E w _ Y;obtain⟨fd,z,I⟩:=F w Z S _ J G.T.g P;exact Bx J G.T.g G.T.b G.T.builtins G.T.nolimit y X hints (Nz hlen R) A I z (λH t C=>N w H a ns hlen t C) λH e s'=>Q w H U e s'
def fL(s:sb):Arguments:=match s with
 | .FunctionDef _ a _ _ _ _ _ _ _ _=>a
 |_=>{posonlyargs:=[],args:=[],vararg:=none,kwonlyargs:=[],kw_defaults:=[],kwarg:=none,defaults:=[]}
def dC(s:sb):List Stmt:=match s with
 | .FunctionDef _ _ b _ _ _ _ _ _ _=>b
 |_=>[]
def aA(s:sb):Scope:=match s with
 | .FunctionDef _ _ _ _ _ _ sc _ _ _=>sc
 |_=>{kind:=.function,names:=[],isGenerator:=dr,isCoroutine:=dr}
abbrev Na:A9:=λ_ _ _ _ _ _=>False
abbrev E0:XK:=λ_ _ _=>False
structure Fun(K:dt)(x qual:Str)(st:sb)(f:b_)(fd:f'):Prop where
 ex:∃(oc:aC) (od:Option b_) (kV doc pm:aC) (an:Option b_) (cdv ct:aC) (osl:Array (Option aC)),
  fd=C_ x qual (fL st) (dC st) (aA st) .none kV doc pm an cdv ct/\K.lookup f=ar ⟨oc,od,.func fd,osl⟩/\RX K cdv qual=c_
 kp:A_ K (.ref f)=c_
section
variable {P:eb}{w:er}{K:dt}{mg:Str->Option aC}{base:fg}
theorem Fun.binds{x qual:Str}{st:sb}{f:b_}{X:f'}{Y:List Str}(F:Fun K x qual st f X)
  (h:∀(kV doc pm:aC) (an:Option b_) (Z ct:aC) (us:List aC),us.length=Y.length->SY (C_ x qual (fL st) (dC st) (aA st) .none kV doc pm an Z ct) ⟨us,[]⟩=aw (Y.zip us)):Binds K X Y []:=by
 obtain⟨R,od,kV,doc,pm,an,Z,ct,T,rfl,S,U⟩:=F.ex;exact .all (h kV doc pm an Z ct)
theorem HR{x qual:Str}{st:sb}{f:b_}{S:aC}{od T:Option b_}{X:Array (Option aC)}{kV Y U Z ct:aC}(l:K.lookup f=ar ⟨S,od,.func (C_ x qual (fL st) (dC st) (aA st) .none kV Y U T Z ct),X⟩)
  (c:RX K Z qual=c_) (k:A_ K (.ref f)=c_):Fun K x qual st f (C_ x qual (fL st) (dC st) (aA st) .none kV Y U T Z ct):=⟨⟨S,od,kV,Y,U,T,Z,ct,X,rfl,l,c⟩,k⟩
end
section
variable {X:Cx}
end
end L2
end
namespace S3
open PySem PySem.W PyProof.Rows
def bo{α:Type}(b:Nat->Nat->Bool):T7 α->α
 | .ret a=>a
 | .ask i j k=>bo b (k (b i j))
theorem gw{Z Y:Type}(b:Nat->Nat->Bool)(f:Z->T7 Y):∀t:T7 Z,bo b (t.bind f)=bo b (f (bo b t))
 | .ret _=>rfl
 | .ask i j k=>gw b f (k (b i j))
section
variable (r:Nat->Nat)
abbrev d7:Nat->Nat->Bool:=λi j=>decide (r i<r j)
def ka(p:Array Nat)(k:Nat):Nat:=r (p.getD k 0)
def By(p:Array Nat)(n:Nat):Prop:=∀i j,i<=j->j<n->ka r p i<=ka r p j
def Mu(p:Array Nat)(n:Nat):Prop:=∀i j,i<=j->j<n->ka r p j<=ka r p i
variable {r}
theorem lC{p q:Array Nat}{i j:Nat}(h:p[i]? =q[j]?):p.getD i 0=q.getD j 0:=by rw[N7,N7,h]
theorem tu{p:Array Nat}{i j:Nat}(Z:j<=p.size)(k:Nat):ka r (w_ p i j) k=if i<=k/\k<j then ka r p (i+j - 1 - k)else ka r p k:=by
 have h:=getElem?_mirror_all (i:=i) Z k;unfold ka w_;by_cases c:i<=k/\k<j
 ·rw[if_pos c]at h⊢;rw[lC h]
 ·rw[if_neg c]at h⊢;rw[lC h]
theorem rV{p:Array Nat}{Z d:Nat}(hs:Z<p.size)(Y:d<=Z)(k:Nat):ka r (T8 p Z d) k=if k=Z - d then ka r p Z else if Z - d<k/\k<=Z then ka r p (k - 1)else ka r p k:=by
 have h:=getElem?_bubble hs d Y k;unfold ka;by_cases c:k=Z - d
 ·rw[if_pos c]at h⊢;rw[lC h]
 ·rw[if_neg c]at h⊢;by_cases c2:Z - d<k/\k<=Z
  ·rw[if_pos c2]at h⊢;rw[lC h]
  ·rw[if_neg c2]at h⊢;rw[lC h]
theorem o8:(w_ p i j).size=p.size:=mirror_size _ _ _ _
theorem ff:(w_ p i j).Perm p:=mirror_perm _ _ _ _
theorem tx:∀(f n:Nat),1<=n->By r p n->n<=bo (d7 r) (u5 p f n)/\bo (d7 r) (u5 p f n)<=n+f/\By r p (bo (d7 r) (u5 p f n))
 |0,n,h1,h=>⟨Nu _,Nu _,h⟩
 | f +1,n,h1,h=>by
  show n<=bo (d7 r) (if (d7 r) (p.getD n 0) (p.getD (n - 1) 0)=c_ then So n else u5 p f (n+1))/\bo (d7 r) (if (d7 r) (p.getD n 0) (p.getD (n - 1) 0)=c_ then So n else u5 p f (n+1))<=n+(f+1)/\By r p (bo (d7 r) (if (d7 r) (p.getD n 0) (p.getD (n - 1) 0)=c_ then So n else u5 p f (n+1)));by_cases c:(d7 r) (p.getD n 0) (p.getD (n - 1) 0)=c_
  ·rw[if_pos c];exact⟨Nu _,by show n<=n+(f+1);omega,h⟩
  ·rw[if_neg c];have Y:ka r p (n - 1)<=ka r p n:=by
    exact Qo λz=>c (NJ z)
   obtain⟨a1,a2,X⟩:=tx f (n+1) (by omega) (λi j Z W=>by
    by_cases e:j=n
    ·subst e;by_cases e2:i=j
     ·subst e2;exact Nu _
     ·exact Nz (h i (j - 1) (by omega) (by omega)) Y
    ·exact h i j Z (by omega))
   exact⟨by omega,by omega,X⟩
structure Down(r:Nat->Nat)(p:Array Nat)(n q:Nat):Prop where
 dsc:Mu r p n
 q1:q+1<=n
 eqs:∀k,n - (q+1)<=k->k<n->ka r p k=ka r p (n - 1)
theorem o9{p:Array Nat}(Z:n<=p.size)(h:Down r p n q):∀k,ka r (w_ p (n - (q+1)) n) k=ka r p k:=λk=>by
 rw[tu Z];split
 ·next c=>rw[h.eqs k c.1 c.2,h.eqs _ (by omega) (by omega)]
 ·rfl
theorem lD:∀(f:Nat) (p:Array Nat) (n q:Nat),n+f<=p.size->Down r p n q->
  Down r (bo (d7 r) (vr f p n q)).1 (bo (d7 r) (vr f p n q)).2.1 (bo (d7 r) (vr f p n q)).2.2/\(bo (d7 r) (vr f p n q)).1.Perm p/\n<=(bo (d7 r) (vr f p n q)).2.1/\(bo (d7 r) (vr f p n q)).2.1<=n+f
 |0,p,n,q,hs,h=>⟨h,PZ _,Nu _,Nu _⟩
 | f +1,p,n,q,hs,h=>by
  have e:bo (d7 r) (vr (f+1) p n q)=if ka r p n<ka r p (n - 1)then (if q>0 then bo (d7 r) (vr f (w_ p (n - (q+1)) n) (n+1) 0)else bo (d7 r) (vr f p (n+1) 0))
    else if ka r p (n - 1)<ka r p n then (p,n,q)else bo (d7 r) (vr f p (n+1) (q+1)):=by
   show bo (d7 r) (if (d7 r) (p.getD n 0) (p.getD (n - 1) 0)=c_ then _ else _)=_;unfold ka;by_cases c:r (p.getD n 0)<r (p.getD (n - 1) 0)
   ·rw[if_pos (by simpa using c),if_pos c];split<;>rfl
   ·rw[if_neg (by simpa using c),if_neg c];show bo (d7 r) (if (d7 r) (p.getD (n - 1) 0) (p.getD n 0)=c_ then _ else _)=_;by_cases c2:r (p.getD (n - 1) 0)<r (p.getD n 0)
    ·rw[if_pos (by simpa using c2),if_pos c2];rfl
    ·rw[if_neg (by simpa using c2),if_neg c2]
  have U:=h.q1;have ext:∀{p':Array Nat} {q':Nat},(∀k,ka r p' k=ka r p k)->ka r p n<=ka r p (n - 1)->(q'=0\/(q'=q+1/\ka r p n=ka r p (n - 1)))->Down r p' (n+1) q':=λ{p' q'} hk hle hq=>by
   refine⟨λi j Z S=>?_,by omega,λk W T=>?_⟩
   ·rw[hk,hk];by_cases ej:j=n
    ·subst ej;by_cases e2:i=j
     ·subst e2;exact Nu _
     ·exact Nz hle (h.dsc i (j - 1) (by omega) (by omega))
    ·exact h.dsc i j Z (by omega)
   ·rw[hk,hk,show n+1 - 1=n by omega];rcases hq with rfl|⟨rfl,he⟩
    ·have:k=n:=by omega
     subst this;rfl
    ·by_cases ek:k=n
     ·subst ek;rfl
     ·rw[he];exact h.eqs k (by omega) (by omega)
  rw[e];by_cases c:ka r p n<ka r p (n - 1)
  ·rw[if_pos c];by_cases hq:q>0
   ·rw[if_pos hq];obtain⟨a1,a2,X,Y⟩:=lD f (w_ p (n - (q+1)) n) (n+1) 0 (by rw[o8];omega) (ext (o9 (by omega) h) (by omega) (.inl rfl));exact⟨a1,a2.trans ff,by omega,by omega⟩
   ·rw[if_neg hq];obtain⟨a1,a2,X,Y⟩:=lD f p (n+1) 0 (by omega) (ext (λ_=>rfl) (by omega) (.inl rfl));exact⟨a1,a2,by omega,by omega⟩
  ·rw[if_neg c];by_cases c2:ka r p (n - 1)<ka r p n
   ·rw[if_pos c2];exact⟨h,PZ _,Nu _,by show n<=n+(f+1);omega⟩
   ·rw[if_neg c2];obtain⟨a1,a2,X,Y⟩:=lD f p (n+1) (q+1) (by omega) (ext (λ_=>rfl) (by omega) (.inr ⟨rfl,by omega⟩));exact⟨a1,a2,by omega,by omega⟩
structure Got(r:Nat->Nat)(nrem:Nat)(p:Array Nat)(g:Nat×Array Nat):Prop where
 asc:By r g.2 g.1
 le:g.1<=nrem
 pos:1<=g.1
 perm:g.2.Perm p
theorem rX{p:Array Nat}(Z:1<=n)(U:n<=nrem)(hs:nrem<=p.size)(h:Mu r p n):Got r nrem p (bo (d7 r) (To n nrem p)):=by
 unfold To;rw[gw];have X:By r (w_ p 0 n) n:=λi j Y T=>by rw[tu (by omega),tu (by omega),if_pos ⟨by omega,by omega⟩,if_pos ⟨by omega,by omega⟩];exact h _ _ (by omega) (by omega)
 obtain⟨a1,a2,W⟩:=tx (p:=w_ p 0 n) (nrem - n) n Z X;exact⟨W,by show bo (d7 r) (u5 (w_ p 0 n) (nrem - n) n)<=nrem;omega,by show 1<=bo (d7 r) (u5 (w_ p 0 n) (nrem - n) n);omega,ff⟩
theorem lE{p:Array Nat}(Q:n<nrem)(hs:nrem<=p.size)(h:Down r p (n+1) 0):Got r nrem p (bo (d7 r) (Sq n nrem p)):=by
 unfold Sq;rw[gw];obtain⟨a1,a2,S,T⟩:=lD (nrem - (n+1)) p (n+1) 0 (by omega) h;generalize bo (d7 r) (vr (nrem - (n+1)) p (n+1) 0)=d at a1 a2 S T;obtain⟨X,Z,W⟩:=d;dsimp only at a1 a2 S T;have Y:X.size=p.size:=a2.size_eq;by_cases hq:W>0
 ·show Got r nrem p (bo (d7 r) (if W>0 then _ else _));rw[if_pos hq];have hd:Mu r (w_ X (Z - (W+1)) Z) Z:=λi j U R=>by
   rw[o9 (show Z<=X.size by omega) a1,o9 (show Z<=X.size by omega) a1];exact a1.dsc i j U R
  have:=rX (n:=Z) (nrem:=nrem) (by omega) (by omega) (by rw[o8,Y];exact hs) hd;exact⟨this.asc,this.le,this.pos,(this.perm.trans ff).trans a2⟩
 ·show Got r nrem p (bo (d7 r) (if W>0 then _ else _));rw[if_neg hq];have:=rX (n:=Z) (nrem:=nrem) (by omega) (by omega) (by rw[Y];exact hs) a1.dsc;exact⟨this.asc,this.le,this.pos,this.perm.trans a2⟩
theorem Ac{p:Array Nat}(N:2<=nrem)(hs:nrem<=p.size):Got r nrem p (bo (d7 r) (Sz nrem p)):=by
 unfold Sz;rw[gw];obtain⟨a1,a2,Y⟩:=tx (r:=r) (p:=p) (nrem - 1) 1 (Nu _) (λi j X R=>by
  have:i=j:=by omega
  subst this;exact Nu _)
 have stop:∀(f n:Nat),1<=n->bo (d7 r) (u5 p f n)<n+f->ka r p (bo (d7 r) (u5 p f n))<ka r p (bo (d7 r) (u5 p f n) - 1):=by
  intro f
  induction f with
  |zero=>intro n _ h;exact absurd h (OV _)
  | succ f ih=>
   intro n W h;have e:bo (d7 r) (u5 p (f+1) n)=if ka r p n<ka r p (n - 1)then n else bo (d7 r) (u5 p f (n+1)):=by
    show bo (d7 r) (if (d7 r) (p.getD n 0) (p.getD (n - 1) 0)=c_ then _ else _)=_;unfold ka;by_cases c:r (p.getD n 0)<r (p.getD (n - 1) 0)
    ·rw[if_pos (NJ c),if_pos c];rfl
    ·rw[if_neg (λz=>c (OC z)),if_neg c]
   rw[e]at h⊢;by_cases c:ka r p n<ka r p (n - 1)
   ·rw[if_pos c];exact c
   ·rw[if_neg c]at h⊢;exact ih (n+1) (by omega) (by omega)
 have Z:=stop (nrem - 1) 1 (Nu _);generalize bo (d7 r) (u5 p (nrem - 1) 1)=n at a1 a2 Y Z;by_cases hn:n=nrem
 ·show Got r nrem p (bo (d7 r) (if (n==nrem)=c_ then _ else _));rw[if_pos (by simp[hn])];exact⟨Y,by show n<=nrem;omega,a1,PZ _⟩
 ·show Got r nrem p (bo (d7 r) (if (n==nrem)=c_ then _ else _));rw[if_neg (by simp[hn])];have Q:=Z (by omega);by_cases W:n>1
  ·rw [if_pos W];show Got r nrem p (bo (d7 r) (if (d7 r) (p.getD 0 0) (p.getD (n - 1) 0)=c_ then _ else _));by_cases c:r (p.getD 0 0)<r (p.getD (n - 1) 0)
   ·rw[if_pos (NJ c)];exact⟨Y,by show n<=nrem;omega,a1,PZ _⟩
   ·rw [if_neg (λz=>c (OC z))];have all:∀k,k<n->ka r p k=ka r p (n - 1):=λk P=>by
     have S:=Y 0 k (by omega) P;have T:=Y k (n - 1) (by omega) (by omega);have O:ka r p (n - 1)<=ka r p 0:=Qo c;omega
    have U:∀k,ka r (w_ p 0 n) k=ka r p k:=λk=>by
     rw[tu (by omega)];split
     ·next h=>rw[all k h.2,all _ (by omega)]
     ·rfl
    have:=lE (r:=r) (n:=n) (nrem:=nrem) (p:=w_ p 0 n) (by omega) (by rw[o8];exact hs) ⟨λi j X R=>by
      rw[U,U];by_cases ej:j=n
      ·subst ej;by_cases ei:i=j
       ·subst ei;exact Nu _
       ·rw[all i (by omega)];omega
      ·rw[all i (by omega),all j (by omega)];exact Nu _,by omega,λk S T=>by rw[show k=n+1 - 1 by omega]⟩
    exact⟨this.asc,this.le,this.pos,this.perm.trans ff⟩
  ·rw [if_neg W];have e1:n=1:=by omega
   subst e1;exact lE (by omega) hs ⟨λi j X R=>by
     by_cases ej:j=1
     ·subst ej;by_cases ei:i=1
      ·subst ei;exact Nu _
      ·rw[show i=1 - 1 by omega];omega
     ·rw[show i=j by omega];exact Nu _,by omega,λk S T=>by rw[show k=1+1 - 1 by omega]⟩
theorem mO(Z:By r p k):∀(f l m:Nat),m - l<=f->l<=m->m<=k->(∀i,i<l->ka r p i<=ka r p k)->(∀i,m<=i->i<k->ka r p k<=ka r p i)->
  bo (d7 r) (u4 p k f l m)<=k/\(∀i,i<bo (d7 r) (u4 p k f l m)->ka r p i<=ka r p k)/\∀i,bo (d7 r) (u4 p k f l m)<=i->i<k->ka r p k<=ka r p i
 |0,l,m,hf,hl,hm,h1,h2=>by
  have:l=m:=by omega
  subst this;exact⟨by show l<=k;omega,h1,h2⟩
 | f+1,l,m,hf,hl,hm,h1,h2=>by
  by_cases c:l ≥ m
  ·have e:bo (d7 r) (u4 p k (f+1) l m)=l:=by
    show bo (d7 r) (if l ≥ m then _ else _)=l;rw[if_pos c];rfl
   rw[e];have:l=m:=by omega
   subst this;exact⟨by omega,h1,h2⟩
  ·have e:bo (d7 r) (u4 p k (f+1) l m)=if ka r p k<ka r p ((l+m) / 2)then bo (d7 r) (u4 p k f l ((l+m) / 2))else bo (d7 r) (u4 p k f ((l+m) / 2+1) m):=by
    show bo (d7 r) (if l ≥ m then _ else _)=_;rw[if_neg c];show bo (d7 r) (if (d7 r) (p.getD k 0) (p.getD ((l+m) / 2) 0)=c_ then _ else _)=_;unfold ka;by_cases d:r (p.getD k 0)<r (p.getD ((l+m) / 2) 0)
    ·rw[if_pos (NJ d),if_pos d]
    ·rw[if_neg (λz=>d (OC z)),if_neg d]
   rw[e];by_cases d:ka r p k<ka r p ((l+m) / 2)
   ·rw[if_pos d];exact mO Z f l ((l+m) / 2) (by omega) (by omega) (by omega) h1 λi Y X=>Nz (O2 d) (Z _ i Y X)
   ·rw[if_neg d];exact mO Z f ((l+m) / 2+1) m (by omega) (by omega) hm (λi Y=>Nz (Z i ((l+m) / 2) (by omega) (by omega)) (by omega)) h2
theorem yj:∀(f:Nat) (p:Array Nat) (k:Nat),k+f<=p.size->By r p k->By r (bo (d7 r) (R8 f p k)) (k+f)/\(bo (d7 r) (R8 f p k)).Perm p
 |0,p,k,hs,h=>⟨h,PZ _⟩
 | f +1,p,k,hs,h=>by
  have e:bo (d7 r) (R8 (f+1) p k)=bo (d7 r) (R8 f (T8 p k (k - bo (d7 r) (u4 p k k 0 k))) (k+1)):=by show bo (d7 r) ((u4 p k k 0 k).bind _)=_;rw[gw]
  rw[e];obtain⟨T,X,W⟩:=mO (r:=r) h k 0 k (by omega) (by omega) (Nu _) (λi U=>absurd U (Rr _)) (λi U R=>absurd R (by omega));generalize bo (d7 r) (u4 p k k 0 k)=l at T X W;have S:By r (T8 p k (k - l)) (k+1):=λi j Y O=>by
   rw[rV (by omega) (by omega),rV (by omega) (by omega)];have Z:k - (k - l)=l:=by omega
   rw[Z];by_cases ei:i=l
   ·rw[if_pos ei];by_cases ej:j=l
    ·rw[if_pos ej];exact Nu _
    ·rw[if_neg ej,if_pos ⟨by omega,by omega⟩];exact W (j - 1) (by omega) (by omega)
   ·rw[if_neg ei];by_cases ci:l<i/\i<=k
    ·rw[if_pos ci,if_neg (by omega),if_pos ⟨by omega,by omega⟩];exact h _ _ (by omega) (by omega)
    ·rw[if_neg ci];by_cases ej:j=l
     ·rw[if_pos ej];exact X i (by omega)
     ·rw[if_neg ej];by_cases cj:l<j/\j<=k
      ·rw[if_pos cj];exact h _ _ (by omega) (by omega)
      ·rw[if_neg cj];exact h _ _ Y (by omega)
  obtain⟨P,Q⟩:=yj f (T8 p k (k - l)) (k+1) (by rw[bubble_size];omega) S;refine⟨?_,Q.trans (bubble_perm _ _ _)⟩;rw[show k+(f+1)=k+1+f by omega];exact P
theorem Bz(U:2<=n):By r (bo (d7 r) (y3 n)) n/\(bo (d7 r) (y3 n)).Perm (K' (ey n)):=by
 unfold y3;rw[gw];have G:=Ac (r:=r) (nrem:=n) (p:=K' (ey n)) U (by simp);generalize bo (d7 r) (Sz n (K' (ey n)))=g at G;obtain⟨m,p⟩:=g;have X:p.size=n:=by rw[G.perm.size_eq];simp
 have hle:m<=n:=G.le;have Y:1<=m:=G.pos;show By r (bo (d7 r) (if m<n then R8 (n - max m 1) p (max m 1)else So p)) n/\Array.Perm (bo (d7 r) (if m<n then R8 (n - max m 1) p (max m 1)else So p)) (K' (ey n));by_cases c:m<n
 ·rw[if_pos c];have em:max m 1=m:=by omega
  rw[em];obtain⟨Z,W⟩:=yj (r:=r) (n - m) p m (by omega) G.asc;refine⟨?_,W.trans G.perm⟩;rw[show m+(n - m)=n by omega]at Z;exact Z
 ·rw[if_neg c];have em:m=n:=by omega
  subst em;exact⟨G.asc,G.perm⟩
end
def nD(n:Nat){α:Type}(R:α->Prop):T7 α->Prop
 | .ret a=>R a
 | .ask i j k=>i<n/\j<n/\∀b,nD n R (k b)
theorem iJ{n:Nat}{Z X:Type}{R:Z->Prop}{Y:X->Prop}{f:Z->T7 X}:∀{t:T7 Z},nD n R t->(∀a,R a->nD n Y (f a))->nD n Y (t.bind f)
 | .ret a,h,k=>k a h
 | .ask i j g,h,k=>⟨h.1,h.2.1,λb=>iJ (h.2.2 b) k⟩
theorem BA{n:Nat}{Y:Type}{R:Y->Prop}{Z:Nat->Nat->(Bool->a_->Prop)->a_->Prop}{b:Nat->Nat->Bool}{s:a_}{Q:Y->a_->Prop}(h:∀i j C,i<n->j<n->C (b i j) s->Z i j C s):
  ∀{t:T7 Y},nD n R t->Q (bo b t) s->t.kasWp Z Q s
 | .ret a,_,q=>q
 | .ask i j k,o,q=>h i j _ o.1 o.2.1 (BA h (o.2.2 (b i j)) q)
theorem pd{n:Nat}{Y:Type}{R:Y->Prop}{b Z:Nat->Nat->Bool}(h:∀i j,i<n->j<n->b i j=Z i j):∀{t:T7 Y},nD n R t->bo b t=bo Z t
 | .ret a,_=>rfl
 | .ask i j k,o=>by
  show bo b (k (b i j))=bo Z (k (Z i j));rw[h i j o.1 o.2.1];exact pd h (o.2.2 _)
def In(n:Nat)(p:Array Nat):Prop:=0<n/\∀x∈p.toList,x<n
theorem In.get(h:In n p)(k:Nat):p.getD k 0<n:=by
 rw[N7];cases e:p[k]? with
 |none=>exact h.1
 |some x=>exact h.2 x (by rw[<-NY]at e;exact NU e)
theorem In.perm{q:Array Nat}(h:In n p)(e:q.Perm p):In n q:=⟨h.1,λx Z=>h.2 x ((Array.Perm.toList e).mem_iff.mp Z)⟩
theorem tD(h:In n p):∀(f m:Nat),nD n (λ_=>True) (u5 p f m)
 |0,m=>trivial
 | f+1,m=>⟨h.get _,h.get _,λb=>by
   cases b with
   |true=>exact trivial
   |false=>exact tD h f (m+1)⟩
theorem lF:∀(f:Nat) (p:Array Nat) (m q:Nat),In n p->nD n (λr=>In n r.1) (vr f p m q)
 |0,p,m,q,h=>h
 | f+1,p,m,q,h=>⟨h.get _,h.get _,λb=>by
   cases b with
   |true=>
    show nD n _ (if q>0 then _ else _);split
    ·exact lF f _ _ _ (h.perm ff)
    ·exact lF f _ _ _ h
   |false=>
    refine⟨h.get _,h.get _,λb=>?_⟩;cases b with
    |true=>exact h
    |false=>exact lF f _ _ _ h⟩
theorem rY(h:In n p):nD n (λr:Nat×Array Nat=>In n r.2) (To m nrem p):=
 iJ (tD (h.perm ff) _ _) λ_ _=>h.perm ff
theorem lG(h:In n p):nD n (λr:Nat×Array Nat=>In n r.2) (Sq m nrem p):=
 iJ (lF _ _ _ _ h) λa Z=>by
  split
  ·exact rY (Z.perm ff)
  ·exact rY Z
theorem Ad(h:In n p):nD n (λr:Nat×Array Nat=>In n r.2) (Sz nrem p):=
 iJ (tD h _ _) λa _=>by
  split
  ·exact h
  ·split
   ·refine⟨h.get _,h.get _,λb=>?_⟩;cases b with
    |true=>exact h
    |false=>exact lG (h.perm ff)
   ·exact lG h
theorem mP(h:In n p):∀(f l m:Nat),nD n (λ_=>True) (u4 p k f l m)
 |0,l,m=>trivial
 | f+1,l,m=>by
  show nD n _ (if l ≥ m then _ else _);split
  ·exact trivial
  ·refine⟨h.get _,h.get _,λb=>?_⟩;cases b with
   |true=>exact mP h f _ _
   |false=>exact mP h f _ _
theorem yk:∀(f:Nat) (p:Array Nat) (k:Nat),In n p->nD n (In n) (R8 f p k)
 |0,p,k,h=>h
 |f+1,p,k,h=>iJ (mP h _ _ _) λl _=>yk f _ _ (h.perm (bubble_perm _ _ _))
theorem u6(Y:0<n):nD n (In n) (y3 n):=
 iJ (Ad ⟨Y,λx X=>by simpa using X⟩) λa Z=>by
  split
  ·exact yk _ _ _ Z
  ·exact Z
theorem u7{Z:Type}{p q:Z->Bool}:∀{l:List Z} {x:Z},(∀y∈l,p y=c_->q y=c_)->x∈l->p x=dr->q x=c_->l.countP p<l.countP q
 | y::l,x,h,hx,hp,hq=>by
  have U:l.countP p<=l.countP q:=List.countP_mono_left λz Y=>h z (NF _ Y);rw[List.countP_cons,List.countP_cons];rcases NB.mp hx with e|hx'
  ·subst e;rw[hp,hq];simp;omega
  ·have W:=u7 (λz Y=>h z (NF _ Y)) hx' hp hq;have X:=h y NM;cases e1:p y with
   |true=>rw[X e1];simp;omega
   |false=>simp;split<;>omega
theorem EO{b:Nat->Nat->Bool}(N:2<=n)(S:∀i,i<n->b i i=dr)(P:∀i j k,i<n->j<n->k<n->b i j=c_->b j k=c_->b i k=c_)(T:∀i j k,i<n->j<n->k<n->b i k=c_->b i j=c_\/b j k=c_):
  (bo b (y3 n)).Perm (K' (ey n))/\∀i j,i<=j->j<n->b ((bo b (y3 n)).getD j 0) ((bo b (y3 n)).getD i 0)=false:=by
 let r:Nat->Nat:=λi=>(ey n).countP λj=>b j i;have R:∀i j,i<n->j<n->b i j=decide (r i<r j):=λi j Y X=>by
  cases e:b i j with
  |true=>
   refine(NJ ?_).symm;exact u7 (x:=i) (λy W h=>P y i j (N1.mp W) Y X h e) (N1.mpr Y) (S i Y) e
  |false=>
   refine(NQ (RB.mpr ?_)).symm;refine List.countP_mono_left λy W h=>?_;rcases T y i j (N1.mp W) Y X h with z|z
   ·exact z
   ·rw[e]at z;cases z
 have O:bo b (y3 n)=bo (d7 r) (y3 n):=pd R (u6 (by omega));obtain⟨a1,a2⟩:=Bz (r:=r) N;rw[O];refine⟨a2,λi j U X=>?_⟩;have Z:In n (bo (d7 r) (y3 n)):=In.perm ⟨by omega,λx Q=>by simpa using Q⟩ a2;rw[R _ _ (Z.get j) (Z.get i)];exact NQ (RB.mpr (a1 i j U X))
end S3
namespace S3
open PySem PySem.Spec PySem.W PyProof.Rows L2
section
variable {prog:eb}{w:er}{A:g_}{E:aC->a_->Prop}{s:a_}{Q:Bool->a_->Prop}
theorem u9:∀{us ws:List aC} {ns ms:List Int} (i:Nat),n_ us ns->n_ ws ms->Q (HT.lexLt ns ms) s->
  KatLex prog w A b (decide (us.length<ws.length)) Q (us.zip ws) i s
 |[],[],ns,ms,i,h1,h2,q=>by
  cases h1;cases h2;exact q
 |[],_::_,_,_,_,h1,h2,q=>by
  cases h1;cases h2;exact q
 |_::_,[],_,_,_,h1,h2,q=>by
  cases h1;cases h2;exact q
 | u::us,v::ws,ns,ms,i,h1,h2,q=>by
  cases h1 with
  |cons n t h1=>
  cases h2 with
  | cons k t' h2=>
   rw[HT.lexLt_cons]at q;by_cases e:n=k
   ·rw[if_pos e]at q;refine kat_cons (Rm ?_);have:(n==k)=true:=by simp[e]
    rw[this];refine kat_yes ?_;show KatLex prog w A b (decide (us.length+1<ws.length+1)) Q (us.zip ws) (i+1) s;rw[show decide (us.length+1<ws.length+1)=decide (us.length<ws.length) by simp];exact u9 (i+1) h1 h2 q
   ·rw[if_neg e]at q;refine kat_cons (Rm ?_);have:(n==k)=false:=by simp[e]
    rw[this];refine kat_no ?_;cases hbi:(b && i==0)with
    |true=>exact oneLt_int q
    |false=>exact kat_one _ _ (lt_int q)
end
structure Tups(h:fg)(vs:List aC)(nss:List (List Int)):Prop where
 len:vs.length=nss.length
 get:∀(i:Nat),i<vs.length->∃a o us n,vs.getD i hY= .ref a/\h.get? a=ar o/\o.cls= .type "tuple"/\o.data= .seq us n/\n_ us.toList (nss.getD i [])/\0<us.size
theorem Tups.keep{h':fg}(t:Tups h vs nss)(k:∀i a o,i<vs.length->vs.getD i hY= .ref a->h.get? a=ar o->h'.get? a=ar o):Tups h' vs nss:=
 ⟨t.len,λi Z=>let ⟨a,o,us,n,e1,e2,r⟩:=t.get i Z;⟨a,o,us,n,e1,k i a o Z e1 e2,r⟩⟩
theorem Tups.ask{s:a_}(t:Tups s.heap vs nss){C:Bool->a_->Prop}(Y:i<vs.length)(X:j<vs.length)
  (q:C (HT.lexLt (nss.getD i []) (nss.getD j [])) s):kas_ask prog w A (tuples' b) vs i j C s:=by
 obtain⟨a,o,us,n,e1,e2,N,W,T,R⟩:=t.get i Y;obtain⟨P,S,U,O,f1,f2,Q,f4,Z,L⟩:=t.get j X;unfold kas_ask;rw[e1,f1];refine kat_lt e2 W f2 f4 ?_;have z:=u9 (prog:=prog) (w:=w) (A:=A) (b:=b) 0 T Z q;simpa using z
end S3
namespace S3
open PySem PySem.Spec PyProof.Rows L2
abbrev St:=L2.St
def jB(cells:List (Str×b_)):List (Str×m_)->List (Str×b_)->List (Str×b_)
 |[],cs=>cs
 |(n,k)::r,cs=>jB cells r (if k== .free then (n,(cells.lookup n).getD 0)::cs else cs)
theorem lH(scope:Scope)(env:Env)(h:∀y∈scope.names,y.2= .free->∃c,env.cells.lookup y.1=ar c):S9 scope env=aw (jB env.cells scope.names []):=by
 have go:∀(names:List (Str×m_)) (cs:List (Str×b_)),(∀y∈names,y.2= .free->∃c,env.cells.lookup y.1=ar c)->
   (Ue names cs (λ(x:Str×m_) (r:List (Str×b_))=>(if (x.2==h_)=c_ then do let a<-cellOf env x.1;aw (G4 ((x.1,a)::r))else aw (G4 r):Sem (ForInStep (List (Str×b_))))):Sem (List (Str×b_)))=aw (jB env.cells names cs):=by
  intro names
  induction names with
  |nil=>intro cs _;rfl
  | cons y r ih=>
   intro cs W;obtain⟨n,k⟩:=y;have U:∀y∈r,y.2= .free->∃c,env.cells.lookup y.1=ar c:=λy hm=>W y (NF _ hm);rw[RQ];by_cases hk:(k==h_)=c_
   ·have Y:k= .free:=by simpa using hk
    obtain⟨c,X⟩:=W (n,k) NM Y;have e:cellOf env n=aw c:=by unfold cellOf;rw[X]
    simp only[hk,if_true,e,pure_bind];rw[ih _ U];simp only[jB,hk,if_true,X,Option.getD_some]
   ·have Z:(k==h_)=false:=by simpa using hk
    simp only[Z,eo,if_false,pure_bind];rw[ih _ U];simp only[jB,Z,eo,if_false]
 have:=go scope.names [] h;unfold S9;simp only[bind_pure]at*;exact this
theorem tE{cells:List (Str×b_)}:∀(names:List (Str×m_)) (cs:List (Str×b_)),(∀y∈names,y.2= .free->∃c,cells.lookup y.1=ar c)->(∀p∈cs,cells.lookup p.1=ar p.2)->
  ∀p∈jB cells names cs,cells.lookup p.1=ar p.2
 |[],cs,_,h=>h
 | (n,k)::r,cs,hy,h=>by
  refine tE r _ (λy hm=>hy y (NF _ hm)) λp Z=>?_;by_cases hk:(k==h_)=c_
  ·rw[if_pos hk]at Z;rcases NB.mp Z with rfl|Z
   ·obtain⟨c,X⟩:=hy (n,k) NM (by simpa using hk);show cells.lookup n=ar ((cells.lookup n).getD 0);have Y:cells.lookup n=ar c:=X;rw[Y];rfl
   ·exact h p Z
  ·rw[if_neg hk]at Z;exact h p Z
theorem jC:∀(names:List (Str×m_)) (cs:List (Str×b_)),(x,h_)∈names\/x∈cs.map (·.1)->x∈(jB cells names cs).map (·.1)
 |[],cs,h=>by
  rcases h with h|h
  ·cases h
  ·exact h
 | (n,k)::r,cs,h=>by
  refine jC r _ ?_;rcases h with h|h
  ·rcases NB.mp h with e|h
   ·cases e;refine .inr ?_;simp
   ·exact .inl h
  ·refine .inr ?_;by_cases hk:(k==h_)=c_
   ·rw[if_pos hk];exact NF _ h
   ·rw[if_neg hk];exact h
theorem lookup_mem:∀{l:List (Str×b_)},l.lookup x=ar c->(x,c)∈l
 |[],h=>by cases h
 | (n,a)::r,h=>by
  by_cases e:x==n
  ·have Z:x=n:=by simpa using e
   rw[Oh,e]at h;have h':ar a=ar c:=h;cases h';subst Z;exact NM
  ·have e2:(x==n)=false:=by simpa using e
   rw[Oh,e2]at h;exact NF _ (lookup_mem h)
theorem mem_lookup:∀{l:List (Str×b_)},x∈l.map (·.1)->∃c,l.lookup x=ar c
 |[],h=>by cases h
 | (n,a)::r,h=>by
  by_cases e:x==n
  ·exact⟨a,by rw[Oh,e]⟩
  ·have e2:(x==n)=false:=by simpa using e
   rw[Oh,e2];refine mem_lookup ?_;rcases NB.mp h with z|z
   ·have Z:x=n:=z;subst Z;simp at e
   ·exact z
theorem bz:∀{l:List (Str×m_)},l.lookup x=ar k->(x,k)∈l
 |[],h=>by cases h
 | (n,a)::r,h=>by
  by_cases e:x==n
  ·have Z:x=n:=by simpa using e
   rw[Oh,e]at h;have h':ar a=ar k:=h;cases h';subst Z;exact NM
  ·have e2:(x==n)=false:=by simpa using e
   rw[Oh,e2]at h;exact NF _ (bz h)
theorem i6{env:Env}:∀{names:List (Str×m_)} {k:m_},
  (names.map λ(n,k)=>if (k==h_ && env.scope.kind== .function && env.kindOf n==ar .cell)then (n,q0)else (n,k)).lookup x=ar k->
   names.lookup x=ar k\/(k= .cell/\names.lookup x=ar .free)
 |[],k,h=>by cases h
 | (n,a)::r,k,h=>by
  by_cases e:x==n
  ·rw[NI]at h;by_cases c:(a==h_ && env.scope.kind== .function && env.kindOf n==ar .cell)=c_
   ·have Y:a= .free:=by
     simp only[hO,beq_iff_eq]at c;exact c.1.1
    simp only[c,if_true,lb,e]at h;cases h;refine .inr ⟨rfl,?_⟩;rw[Oh,e,Y]
   ·have Z:(a==h_ && env.scope.kind== .function && env.kindOf n==ar .cell)=false:=by simpa using c
    simp only[Z,eo,if_false,lb,e]at h;refine .inl ?_;rw[Oh,e];exact h
  ·have e2:(x==n)=false:=by simpa using e
   rw[Oh,e2];refine i6 (env:=env) (names:=r) ?_;rw[NI]at h;by_cases c:(a==h_ && env.scope.kind== .function && env.kindOf n==ar .cell)=c_
   ·simp only[c,if_true,lb,e2]at h;exact h
   ·have Z:(a==h_ && env.scope.kind== .function && env.kindOf n==ar .cell)=false:=by simpa using c
    simp only[Z,eo,if_false,lb,e2]at h;exact h
theorem lI{env:Env}:∀{names:List (Str×m_)},names.lookup x=ar .free->
  (names.map λ(n,k)=>if (k==h_ && env.scope.kind== .function && env.kindOf n==ar .cell)then (n,q0)else (n,k)).lookup x=ar .cell\/
  (names.map λ(n,k)=>if (k==h_ && env.scope.kind== .function && env.kindOf n==ar .cell)then (n,q0)else (n,k)).lookup x=ar .free
 |[],h=>by cases h
 | (n,a)::r,h=>by
  rw[NI];by_cases e:x==n
  ·rw[Oh,e]at h;have X:ar a=ar NameKind.free:=h;cases X;by_cases c:(h_==h_ && env.scope.kind== .function && env.kindOf n==ar .cell)=c_
   ·refine .inl ?_;simp only[c,if_true,lb,e]
   ·have Z:(h_==h_ && env.scope.kind== .function && env.kindOf n==ar .cell)=false:=by simpa using c
    refine .inr ?_;simp only[Z,eo,if_false,lb,e]
  ·have e2:(x==n)=false:=by simpa using e
   rw[Oh,e2]at h;have Y:=lI (env:=env) h;by_cases c:(a==h_ && env.scope.kind== .function && env.kindOf n==ar .cell)=c_
   ·simp only[c,if_true,lb,e2];exact Y
   ·have Z:(a==h_ && env.scope.kind== .function && env.kindOf n==ar .cell)=false:=by simpa using c
    simp only[Z,eo,if_false,lb,e2];exact Y
theorem wX:∀{names:List (Str×m_)} {n:Nat} {acc:List (Str×b_)} {p:Str×b_},p∈j_ n names acc->p∈acc\/n<=p.2
 |[],n,acc,p,h=>.inl h
 | (x,k)::r,n,acc,p,h=>by
  unfold j_ at h;split at h
  ·rcases wX h with h|h
   ·rcases NB.mp h with rfl|h
    ·exact .inr (Nu _)
    ·exact .inl h
   ·exact .inr (Qb h)
  ·exact wX h
theorem wY:∀{names:List (Str×m_)} {n:Nat} {acc:List (Str×b_)},(∀p∈acc,p.2<n)->(∀x y c,(x,c)∈acc->(y,c)∈acc->x=y)->∀x y c,(x,c)∈j_ n names acc->(y,c)∈j_ n names acc->x=y
 |[],n,acc,_,hi,x,y,c,h1,h2=>hi x y c h1 h2
 | (z,k)::r,n,acc,hl,hi,x,y,c,h1,h2=>by
  unfold j_ at h1 h2;by_cases hk:(k==q0)=c_
  ·rw[if_pos hk]at h1 h2;refine wY (λp Z=>?_) (λx y c g1 g2=>?_) x y c h1 h2
   ·rcases NB.mp Z with rfl|Z
    ·exact Qp _
    ·exact OX (hl p Z)
   ·rcases NB.mp g1 with g1|g1<;>rcases NB.mp g2 with g2|g2
    ·rw[<-g2]at g1;exact(Prod.mk.inj g1).1
    ·cases g1;exact absurd (hl _ g2) (OV _)
    ·cases g2;exact absurd (hl _ g1) (OV _)
    ·exact hi x y c g1 g2
  ·rw[if_neg hk]at h1 h2;exact wY hl hi x y c h1 h2
theorem tF:∀{names:List (Str×m_)} {n:Nat} {acc:List (Str×b_)},(∀y∈names,y.2= .cell->y.1≠x)->(j_ n names acc).lookup x=acc.lookup x
 |[],_,_,_=>rfl
 | (z,k)::r,n,acc,h=>by
  unfold j_;split
  ·next hk=>
   rw[tF λy Z=>h y (NF _ Z),Oh];have:(x==z)=false:=by have:=h (z,k) NM (by simpa using hk);simpa using j' this
   rw[this]
  ·exact tF λy Z=>h y (NF _ Z)
theorem tG:∀{names:List (Str×m_)} {h:fg} {acc:List (Str×b_)} {p:Str×b_},p∈j_ h.objs.size names acc->p∈acc\/(pushCells h names).IsCell p.2 none
 |[],h,acc,p,q=>.inl q
 | (x,k)::r,h,acc,p,q=>by
  unfold j_ at q;unfold pushCells;split at q
  ·next hk=>
   rw[if_pos hk];have Z:p∈j_ (h.push {cls:=.type "cell",data:=.cell none}).objs.size r ((x,h.objs.size)::acc):=by rw[OI];exact q
   rcases tG Z with Z|Z
   ·rcases NB.mp Z with rfl|Z
    ·exact .inr ⟨_,Rt _ _ _ _ (NA _ rfl),rfl⟩
    ·exact .inl Z
   ·exact .inr Z
  ·next hk=>
   rw[if_neg hk];exact tG q
theorem wZ:∀(names:List (Str×m_)) (n:Nat) (acc:List (Str×b_)),((x,q0)∈names\/∃c,acc.lookup x=ar c/\m<=c)->m<=n->(j_ n names acc).lookup x=ar a->m<=a
 | [],n,acc,h,hm,e=>by
  rcases h with h|⟨c,h2,h3⟩
  ·cases h
  ·have Y:acc.lookup x=ar a:=e;rw[h2]at Y;cases Y;exact h3
 | (z,k)::r,n,acc,h,hm,e=>by
  unfold j_ at e;by_cases hk:(k==q0)=c_
  ·rw[if_pos hk]at e;refine wZ r (n+1) _ ?_ (Q6 hm) e;by_cases hz:(x==z)=c_
   ·exact .inr ⟨n,by rw[Oh,hz],hm⟩
   ·have Z:(x==z)=false:=by simpa using hz
    rcases h with h|⟨c,h2,h3⟩
    ·rcases NB.mp h with h|h
     ·cases h;simp at hz
     ·exact .inl h
    ·exact .inr ⟨c,by rw[Oh,Z];exact h2,h3⟩
  ·rw[if_neg hk]at e;refine wZ r n acc ?_ hm e;rcases h with h|h
   ·rcases NB.mp h with h|h
    ·cases h;simp at hk
    ·exact .inl h
   ·exact .inr h
theorem Ae{s:a_}{scope:Scope}{env:Env}
  (h:∀h1,h1.Ns s.heap.objs.size (λ_=>none)->(∀b o,s.heap.get? b=ar o->h1.get? b=ar o)->(∀p∈j_ (s.heap.objs.size+1) scope.names cl,p∈cl\/h1.IsCell p.2 none)->
   Q {scope,locals:=s.heap.objs.size,globals:=env.globals,cells:=j_ (s.heap.objs.size+1) scope.names cl,qual:=env.qual,func:=none,code:=env.code,frame:=env.frame,builtins:=env.builtins} {s with heap:=h1}):
  d_ M A (newFunctionEnv scope env.globals cl [] env.qual none .none (ar env)) Q E s:=by
 simp only[newFunctionEnv,Option.isSome_some,if_true];refine Np (wpAny_alloc (Np (wpAny_layCells _ (λname kind cells=>by cases hkc:kind==q0<;>simp[hkc]) _ _ _ _ ?_)));have e:({s with heap:=s.heap.push {cls:=.type "dict",data:=.dict #[]}}:a_).heap.objs.size=s.heap.objs.size+1:=OI ..;rw[e];refine Np (m:=Ue [] _ _) (Nv (Nv (h _ ((Heap.Ns.new s.heap (.type "dict")).keeps (Rt _ _)) (λb o q=>Rt _ _ b o (Nq _ q)) λp Z=>?_)));exact tG (h:=s.heap.push {cls:=.type "dict",data:=.dict #[]}) (by rw[e];exact Z)
def bL(X:Cx)(scope:Scope)(Nc:List Str)(C:b_)(ex:List b_)(s:a_)(H:Hp):Cx:=
 {X with N:=Nc,s₀:=s,H₀:=H,env:=compEnvC scope (j_ (C+1) scope.names (jB X.env.cells scope.names [])) C X.env,outer:=X.stack,stack:=X.stack,ex:=ex,fn:=λx=>scope.names.lookup x==ar .cell,pn:=[],xe:=λ_ _=>False}
structure CompScope(X:Cx)(scope:Scope)(Nc:List Str)(js:List (Option Nat)):Prop where
 kind:scope.kind= .function
 cel:∀y∈scope.names,y.2= .cell->scope.names.lookup y.1=ar .cell
 loc:∀y∈scope.names,y.2= .local->scope.names.lookup y.1=ar .local
 free:∀y∈scope.names,y.2= .free->X.env.kindOf y.1=ar .cell\/X.env.kindOf y.1=ar .free
 len:js.length=Nc.length
 ix:∀(i:Nat) (x:Str) (j:Nat),Nc[i]? =ar x->js[i]? =ar (ar j)->X.N[j]? =ar x/\scope.names.lookup x=ar .free
def rp(js:List (Option Nat))(σ:St):St:=js.map λo=>o.bind λj=>(σ[j]?).join
def JQ(X:Cx)(ifs:List Expr)(t:TT):Prop:=
 ∀(pins:List (b_×Obj)) (s:a_) (σ:St) (H:Hp) (Q:Bool->Hp->Prop),Inv X pins σ H s->t σ H Q->
  d_ (eK X.prog X.w) X.A (Ue ifs c_ λc r=>if r=c_ then do let ok<-isTrue c X.env (g6 c X.env);aw (G4 ok)else aw (G4 r)) (TP X pins σ Q) X.xe s
theorem ER:JQ X [] (λ_ H Q=>Q c_ H):=λpins s σ H Q I h=>wpAny_tests_nil ⟨H,I,h⟩
theorem ES(h:PT X c t):JQ X [c] t:=λpins s σ H Q I hw=>wpAny_tests_one (h pins s σ H Q I hw)
def ym(wi:TI)(js:List (Option Nat))(g:TG)(tt:TT)(te:TE):TE:=λσ H Q=>wi σ H λJ H1=>∀p,H1 p=none->
 ∃W:Nat->Nat->St->Hp->Prop,(∃m,W 0 m (rp js σ) (upd H1 p (.lst [])))/\∀i m σc Hc,W i m σc Hc->
  (J.stop i Hc/\Q (.ref p) Hc)\/(J.go i Hc/\∃N:St->Hp->Prop,(∀ σ' H',N σ' H'->∃m',m'<m/\W (i+1) m' σ' H')/\∀x H',J.yld i Hc x H'->g x σc H' λσ2 H2=>tt σ2 H2 λb H3=>
   if b=c_ then te σ2 H3 λy H4=>∃xs,H4 p=ar (.lst xs)/\xs.length<sizeLine/\N σ2 (upd H4 p (.lst (xs++[y])))else N σ2 H3)
section
variable {X:Cx}{scope:Scope}{Nc:List Str}{js:List (Option Nat)}{pins:List (b_×Obj)}{σ:St}{H:Hp}{s:a_}
theorem CompScope.has(c:CompScope X scope Nc js)(Z:X.Ok):∀y∈scope.names,y.2= .free->∃a,X.env.cells.lookup y.1=ar a:=λy Y e=>Z.has y.1 (c.free y Y e)
theorem w8{K:fg}(c:CompScope X scope Nc js)(I:Inv X pins σ H s)(U:∀b∈ex,lz X pins H b)(O:∀b∈ex,b<s.heap.objs.size)
  (R:C=s.heap.objs.size) (hn:K.Ns C (λ_=>none)) (hs:∀b o,s.heap.get? b=ar o->K.get? b=ar o)
  (B:∀p∈j_ (C+1) scope.names (jB X.env.cells scope.names []),p∈jB X.env.cells scope.names []\/K.IsCell p.2 none):
  Inv (bL X scope Nc C ex s H) [] (rp js σ) H {s with heap:=K,toks:=tk}:=by
 have Y:=tE (cells:=X.env.cells) scope.names [] (c.has I.ok) (λ_ z=>nomatch z);have Q:∀x a,(jB X.env.cells scope.names []).lookup x=ar a->X.env.cells.lookup x=ar a:=λx a e=>Y _ (lookup_mem e);have t:∀b o,s.heap.get? b=ar o->b≠C:=λb o e=>by rw[R];exact NL (Ny e)
 have P:∀p∈jB X.env.cells scope.names [],p.2<C+1:=λp w=>by obtain⟨v,F,N,_⟩:=I.cell p.1 p.2 (Y p w);rw[R];exact OX (Ny N)
 have Z:∀x a,(j_ (C+1) scope.names (jB X.env.cells scope.names [])).lookup x=ar a->X.env.cells.lookup x=ar a\/(C<a/\K.IsCell a none):=λx a e=>by
  have hm:=lookup_mem e;rcases B _ hm with z|z
  ·exact .inl (Y _ z)
  ·rcases wX hm with y|y
   ·exact .inl (Y _ y)
   ·exact .inr ⟨y,z⟩
 refine⟨⟨I.ok.mod,c.kind,I.ok.glob,I.ok.blt,PR R.symm,λx y a e1 e2=>wY P (λx y a e1 e2=>I.ok.inj x y a (Y _ e1) (Y _ e2)) x y a (lookup_mem e1) (lookup_mem e2),λx L=>?_,λx a z e=>?_,I.ok.hd,I.ok.frames,.inl rfl,λb W=>⟨?_,λx a e z=>?_⟩,
  I.bs,Nz I.ok.bsz I.sz,λb o e W=>?_,λb W z=>?_,I.stack,I.stkFree⟩,rfl,I.bare,Un.kept hs,⟨_,hn,λi x v e1 e2 e3=>?_⟩,λx a e=>?_,?_,λx a e=>?_,(λp w=>nomatch w),I.hok.kept hs,?_⟩
 ·-- names that are cells here have one
  have A:scope.names.lookup x=ar .free\/scope.names.lookup x=ar .cell:=by
   rcases L with L|L
   ·rcases i6 (env:=X.env) (names:=scope.names) L with z|⟨_,z⟩
    ·exact .inr z
    ·exact .inl z
   ·rcases i6 (env:=X.env) (names:=scope.names) L with z|⟨z,_⟩
    ·exact .inl z
    ·cases z
  refine OH.mp (P5 scope.names (C+1) _ ?_);rcases A with z|z
  ·exact .inr (OH.mpr (mem_lookup (jC scope.names [] (.inl (bz z)))))
  ·exact .inl z
 ·-- the block's own cells are new
  have k:scope.names.lookup x=ar .cell:=by have:(scope.names.lookup x==ar .cell)=true:=z;simpa using this
  show s.heap.objs.size<=a;rw[<-R];exact Qb (wZ (m:=C+1) scope.names (C+1) _ (.inl (bz k)) (Nu _) e)
 ·show b≠C;rw[R];exact NL (O b W)
 ·rcases Z x a e with y|⟨y,_⟩
  ·exact(U b W).2.2.2.2.1 x a y z
  ·rw[z,R]at y;exact OV _ (Qj y (O b W))
 ·have:b<X.base.objs.size:=Ny e;rcases (U b W).2.2.2.1 with z|z
  ·exact I.ok.noex b o e z
  ·exact absurd (NK this (Nz I.ok.bsz z)) (OV _)
 ·rcases NB.mp (I.stkSub b z)with e|e
  ·exact(U b W).2.1 e
  ·exact(U b W).2.2.1 e
 ·-- the names that are read from around
  have E:Nc[i]? =ar x:=e1;have:∃j,js[i]? =ar (ar j)/\σ[j]? =ar (ar v):=by
   unfold rp at e2;rw[NP]at e2;cases q:js[i]? with
   |none=>rw[q]at e2;cases e2
   | some o=>
    rw[q]at e2;cases o with
    |none=>cases e2
    |some j=>
     refine⟨j,rfl,?_⟩;have T:(σ[j]?).join=ar v:=NW e2;cases r:σ[j]? with
     |none=>rw[r]at T;cases T
     |some z=>rw[r]at T;exact Of ar T
  obtain⟨j,d,hv⟩:=this;obtain⟨l,S⟩:=c.ix i x j E d;obtain⟨m,h,f⟩:=I.loc;have G:=c.free (x,.free) (bz S) rfl;have J:Gv X.env.scope x:=by
   rcases G with z|z
   ·exact .inr (.inl z)
   ·exact .inr (.inr z)
  obtain⟨u,n,lk⟩:=f j x v l hv J;refine⟨u,n,.inr ⟨?_,?_⟩⟩
  ·rcases lI (env:=X.env) S with z|z
   ·exact .inl z
   ·exact .inr z
  ·rcases lk with⟨z,_⟩|⟨_,a,ea,ha⟩
   ·rcases G with y|y
    ·rw[show X.env.kindOf x=ar q0 from y]at z;cases z
    ·rw[show X.env.kindOf x=ar h_ from y]at z;cases z
   ·obtain⟨b,W⟩:=mem_lookup (jC (cells:=X.env.cells) scope.names [] (.inl (bz S)));have:=Q x b W;rw[ea]at this;cases this;obtain⟨F,N,hd⟩:=ha;refine⟨a,?_,F,hs _ _ N,hd⟩;show(j_ (C+1) scope.names (jB X.env.cells scope.names [])).lookup x=ar a;rw[tF λy g e z=>by have:=c.cel y g e;rw[z,S]at this;cases this];exact W
 ·rcases Z x a e with y|⟨_,y⟩
  ·obtain⟨v,F,N,hd⟩:=I.cell x a y;exact⟨v,F,hs _ _ N,hd⟩
  ·exact⟨_,y⟩
 ·show H C=none;rw[R];exact I.hok.fresh (Nu _)
 ·rcases Z x a e with y|⟨y,_⟩
  ·exact I.freeC x a y
  ·exact I.hok.fresh (by rw[<-R];exact O2 y)
 ·show(rp js σ).length=Nc.length;unfold rp;rw[Nt];exact c.len
theorem BB(I:Inv X pins σ H s)(R:C=s.heap.objs.size)(Z:∀b∈ex,lz X pins H b)
  (T:Inv (bL X scope Nc C ex s H) [] σc H' s') (hs:s_ C s'.heap h2):Inv X pins σ H' {s' with heap:=h2}:=by
 have W:∀b o,s.heap.get? b=ar o->b≠C:=λb o e=>by rw[R];exact NL (Ny e)
 have B:=T.base;have u:Un (jw X.stack) ex H H' s.heap h2:={
  keep:=λb o e n Y U=>(hs.2 b (W b o e)).trans (B.keep b o e n Y U)
  slot:=λb o e n Y U=>by obtain⟨Q,q⟩:=B.slot b o e n Y U;exact⟨Q,(hs.2 b (W b o e)).trans q⟩
  free:=B.free
  there:=λb o e U=>by obtain⟨P,q⟩:=B.there b o e U;exact⟨P,(hs.2 b (W b o e)).trans q⟩
  tups:=B.tups
  frzs:=B.frzs
  tbls:=B.tbls}
 refine I.call' (s':={s' with heap:=h2}) (ch:=ex) T.os u (λb o e=>?_) T.bare λb Y=>⟨(Z b Y).2.2.2.1,(Z b Y).2.1,(Z b Y).2.2.2.2.1,(Z b Y).2.2.2.2.2⟩;have S:∀b o,H' b=ar o->b≠C:=λb o e z=>by have hf:H' C=none:=T.free;rw[z,hf]at e;cases e
 refine(T.hok b o e).stay (λd v hd q=>?_) (λ_ q=>q) λ_ _ q=>q;refine(hs.2 d ?_).trans q;rcases hd with z|z
 ·subst z;exact S _ _ e
 ·exact S _ _ z
theorem vf{Q:VK}(G:Option (aC->Sem Unit))(Qr:aC->a_->Prop)(c:CompScope X scope Nc js)(hc:X.calm=c_)(hi:PI X tg iter wi)
  (b2:∀C ex s H,Inv X pins σ H s->(∀b∈ex,lz X pins H b)->PG (bL X scope Nc C ex s H) tg g/\JQ (bL X scope Nc C ex s H) ifs tt/\PE (bL X scope Nc C ex s H) elt te)
  (I:Inv X pins σ H s) (h:ym wi js g tt te σ H Q)
  (k:∀p C s' S,Q (.ref p) S->(∀l,s_ C s'.heap l->Inv X pins σ S {s' with heap:=l})->(∃m,s'.heap.Ns C m)->lz X pins S C->
   compPost (eK X.prog X.w) X.A X.xe G Qr (.ref p) C (.ok .next) s')
  (hs:∀x,n7 iter X.env x=aw x:=by intro _;rfl):
  d_ (eK X.prog X.w) X.A (comprehension (.ListComp elt [⟨tg,iter,ifs,0⟩] scope pos) scope X.env pos' (Ug []) dr (g6 iter X.env) G) Qr X.xe s:=by
 refine wpAny_comprehension_free rfl hs (lH scope X.env (c.has I.ok)) c.kind c.loc (dq (hi pins s σ H _ I h) λv s1 F=>dq F λc3 s2 l=>?_);obtain⟨it,Y,a,J,U,e,I2,T,E,f2,hW⟩:=l;subst e;refine Og (Ae λF L R O=>?_);dsimp only at L R O⊢;obtain⟨W,⟨m0,w0⟩,turn⟩:=hW s2.heap.objs.size (I2.hok.fresh (Nu _));have f:Inv X pins σ (upd U s2.heap.objs.size (.lst [])) {s2 with heap:=s2.heap.push {cls:=.type "list",dict:=none,data:=.seq ([]:List aC).toArray}}:=
  I2.laid (t':=s2.toks) (λ_ _ q=>Nq _ q) (Nu _) ⟨NN _,[],0,.nil,NA _ rfl⟩
 generalize hS3:({s2 with heap:=s2.heap.push {cls:=.type "list",dict:=none,data:=.seq ([]:List aC).toArray}}:a_)=s3 at f;have e3:s3.heap=s2.heap.push {cls:=.type "list",dict:=none,data:=.seq ([]:List aC).toArray}:=by rw[<-hS3]
 rw[<-e3]at L R O⊢;generalize hp:s2.heap.objs.size=p at*;have j:∀b∈Y,b<p:=λb Z=>by obtain⟨o,e,_⟩:=T.obj _ _ E b Z;rw[<-hp];exact Ny e
 have a4:∀b∈Y,b≠p:=λb Z=>NL (j b Z);have f3:∀b∈Y,lz X pins (upd U p (.lst [])) b:=λb Z=>⟨by rw[aM (a4 b Z)];exact(f2 b Z).1,(f2 b Z).2⟩;have B:s3.heap.objs.size=p+1:=by rw[e3,OI,hp]
 have t:∀b∈Y,b<s3.heap.objs.size:=λb Z=>by rw[B];exact OX (j b Z)
 have P:∀b o,s3.heap.get? b=ar o->F.get? b=ar o:=R;have a7:a 0 F:=T.keep _ _ _ E λb Z o e=>P b o (by rw[e3];exact Nq _ e);generalize hC:s3.heap.objs.size=C at*;have a9:F.Ns C (λ_=>none):=by simpa using L
 have start:∀tk,Inv (bL X scope Nc C Y s3 (upd U p (.lst []))) [] (rp js σ) (upd U p (.lst [])) {s3 with heap:=F,toks:=tk}:=λtk=>w8 c f f3 (λb Z=>by rw[hC];exact t b Z) hC.symm a9 P O;have ok:=(start 0).ok;have K:∀{S:Hp},(∀b∈Y,S b=none)->∀b∈Y,lz (bL X scope Nc C Y s3 (upd U p (.lst []))) [] S b:=λhn b Z=>
  ⟨hn b Z,(ok.exf b Z).1,ok.exfs b Z,.inl Z,(ok.exf b Z).2,λ_ z=>nomatch z⟩
 obtain⟨hG,hT,hE⟩:=b2 C Y s3 (upd U p (.lst [])) f f3;have loop:∀s':a_,Inv (bL X scope Nc C Y s3 (upd U p (.lst []))) [] (rp js σ) (upd U p (.lst [])) s'->a 0 s'.heap->
   K_ (eK X.prog X.w) X.A (.compLoop (.ListComp elt [⟨tg,iter,ifs,0⟩] scope pos) 0 (.ref it) (.ref p) (bL X scope Nc C Y s3 (upd U p (.lst []))).env) (compPost (eK X.prog X.w) X.A X.xe G Qr (.ref p) C) s':=by
  intro s' I' a3;refine codeAny_loop rfl (λn s'=>∃i σ' S,Inv (bL X scope Nc C Y s3 (upd U p (.lst []))) [] σ' S s'/\a i s'.heap/\(∀b∈Y,S b=none)/\W i n σ' S) ?_ m0 ⟨0,_,_,I',a3,λb Z=>(f3 b Z).1,w0⟩;rintro n s4 ⟨i,σ4,H4,I4,st4,fr4,w4⟩;show d_ _ X.A ((compTurn (.ListComp elt [⟨tg,iter,ifs,0⟩] scope pos) 0 (.ref it) (.ref p) (bL X scope Nc C Y s3 (upd U p (.lst []))).env).onRaise (λx=>do R9 x (bL X scope Nc C Y s3 (upd U p (.lst []))).env;theTreesLotGoes x)) _ _ s4;refine wpAny_noted ?_;rw[compTurn_list];refine Np (Rf (Np ?_));rcases turn i n σ4 H4 w4 with⟨stop,qn⟩|⟨go,N,hN,step⟩
  ·refine OM (T.done (bL X scope Nc C Y s3 (upd U p (.lst []))) rfl rfl rfl hc i [] s4 σ4 H4 (λ_ _=>False) I4 (K fr4) st4 stop) (λr s5 ⟨hr,I5⟩=>?_) λ_ _ z=>z.elim;subst hr;refine Nv (k p C s5 H4 qn (λl b0=>BB f hC.symm f3 I5 b0) ?_ (f.fpOk (PR hC) I5.free));obtain⟨m,hm,_⟩:=I5.loc;exact⟨m,hm⟩
  ·refine OM (T.item (bL X scope Nc C Y s3 (upd U p (.lst []))) rfl rfl rfl hc i [] s4 σ4 H4 (λ_ _=>False) I4 (K fr4) st4 go) (λr s5 ⟨u,hr,h5⟩=>?_) λ_ _ z=>z.elim;subst hr;refine Np (OM h5 (λ_ s6 ⟨x,H6,I6,r6,y6,st6,fr6⟩=>?_) λ_ _ z=>z.elim);have a8:=I6.pinned (K fr6) (T.obj _ _ st6);refine Np (OM (hG _ s6 σ4 H6 x u _ a8 r6 (step x H6 y6)) (λ_ s7 ⟨σ7,H7,I7,q7⟩=>?_) λ_ _ z=>z.elim);refine Np (OM (hT _ s7 σ7 H7 _ I7 q7) (λb s8 ⟨H8,I8,q8⟩=>?_) λ_ _ z=>z.elim);have SX:∀{σ9:St} {H9:Hp} {s9:a_},Inv (bL X scope Nc C Y s3 (upd U p (.lst []))) ([]++oR Y s6.heap) σ9 H9 s9->N σ9 H9->
     ∃m,m<n/\∃i σ' S,Inv (bL X scope Nc C Y s3 (upd U p (.lst []))) [] σ' S s9/\a i s9.heap/\(∀b∈Y,S b=none)/\W i m σ' S:=λ{σ9 H9 s9} I9 n9=>by
    obtain⟨m',hm,w9⟩:=hN σ9 H9 n9;refine⟨m',hm,i+1,σ9,H9,I9.unpinned,T.keep _ _ _ st6 λb Z o e=>(I9.pin (b,o) (NS _ (NS _ (i5 Z e)))).1,λb Z=>?_,w9⟩;obtain⟨o,e,d⟩:=T.obj _ _ st6 b Z;exact(I9.pin (b,o) (NS _ (NS _ (i5 Z e)))).2.1
   cases b with
   |false=>exact Nv ⟨rfl,SX I8 q8⟩
   |true=>
    refine Np (Np (OM (hE _ s8 σ7 H8 _ I8 q8) (λy s9 ⟨yv,H9,I9,r9,q9⟩=>?_) λ_ _ z=>z.elim));obtain⟨xs,hx,hl,n9⟩:=q9;refine Np (OM (rT (X:=bL X scope Nc C Y s3 (upd U p (.lst []))) _ s9 σ7 H9 (.ref p) [yv] (.ref p) [y] (λ_ S=>N σ7 S) I9 rfl (.cons r9 .nil) ⟨p,xs,yv,rfl,rfl,hx,hl,n9⟩) (λ_ s10 ⟨_,H10,I10,_,q10⟩=>?_) λ_ _ z=>z.elim);exact Nv (Nv ⟨rfl,SX I10 q10⟩)
 refine codeAny_compStart_list (loop _ ?_ ?_) (T.self _ 0 _ _ _ ?_ (loop _ ?_ ?_))
 all_goals first
  |exact a7
  |(subst hS3;exact start _)
theorem ET(c:CompScope X scope Nc js)(U:X.calm=c_)(S:PI X tg iter wi)
  (Z:∀C ex s H,PG (bL X scope Nc C ex s H) tg g/\JQ (bL X scope Nc C ex s H) ifs tt/\PE (bL X scope Nc C ex s H) elt te)
  (hs:∀x,n7 iter X.env x=aw x:=by intro _;rfl):PE X (.ListComp elt [⟨tg,iter,ifs,0⟩] scope pos) (ym wi js g tt te):=by
 intro pins s σ H Q I h;rw[eval_ListComp];refine vf none _ c U S (λC ex s H _ _=>Z C ex s H) I h (λp C s' W q T R _=>?_) hs;obtain⟨m,hm⟩:=R;exact⟨m,hm,λP Y=>⟨.ref p,W,T P Y,rfl,q⟩⟩
theorem xa{pos:Pos}(R:X.N.Nodup)(U:X.N[i]? =ar x)(F:Loc X.env.scope x)
  (c:CompScope X scope Nc js) (Q:X.calm=c_) (O:PI X tg iter wi)
  (T:∀C ex s H,PG (bL X scope Nc C ex s H) tg g/\JQ (bL X scope Nc C ex s H) ifs tt/\PE (bL X scope Nc C ex s H) elt te)
  (W:l_ (.ListComp elt [⟨tg,iter,ifs,0⟩] scope cpos) (ar (.Name x pos')) pos.line X.env=aw true:=by rfl)
  (K:X.fn x=c_\/X.env.scope.names.lookup x=ar .local:=by first|exact .inl rfl|exact .inr rfl|assumption)
  (hs:∀x,n7 iter X.env x=aw x:=by intro _;rfl):PS X (.Assign [.Name x pos'] (.ListComp elt [⟨tg,iter,ifs,0⟩] scope cpos) pos) (Hu (ym wi js g tt te) (Bh i)):=by
 intro pins s σ H D I h;rw[exec_Assign_Name_used _ _ _ _ W];refine Np (Rf (Np ?_));show d_ _ X.A (do let _<-comprehension (.ListComp elt [⟨tg,iter,ifs,0⟩] scope cpos) scope X.env _ (Ug []) dr (g6 iter X.env) (ar (RW (.Name x pos') X.env))) _ _ s;refine Np (dq (vf (ar (RW (.Name x pos') X.env)) (λ_ s'=>SP X pins D .next s') c Q O (λC ex s H _ _=>T C ex s H) I h (λp C s' S q P E Z=>?_) hs) λ_ s' q=>Nv (Nv q));obtain⟨m,hm⟩:=E;have L:Inv X pins σ S s':=P s'.heap (.refl ..);refine wpAny_assign_Name (rN L R U F (v:=.ref p) rfl (λs'' I'' ⟨a,hsb,ha⟩=>?_) K);have G:C≠a:=by
  rcases ha with z|z
  ·rw[z];exact Z.2.1
  ·exact λe=>Z.2.2.2.2.1 x a z e.symm
 refine⟨m,hm.sameBut hsb G,λB Y=>?_⟩;exact⟨_,S,I''.turned (t':=s''.toks) (it:=C) (λb o J e=>(Y.2 b J).trans e) Z.1 Z.2.1 Z.2.2.2.1 Z.2.2.2.2.1 Z.2.2.2.2.2,q⟩
end
inductive D where
 |non|bl (b:Bool)|int (i:Int)|str (x:Str)|tup (ds:List D)|lst (k:Nat)|ro (ds:List D)|emp
 |fn (a c:b_) (q:Str) (ds:List D) (vs:List V)|exc (x:Str) (ds:List D)
 |fz (ds:List D)
abbrev aB:=List (List D)
inductive Res(α:Type) where
 |ok (a:α)|ex (x:D)
def M(α:Type):=aB->Option (Res α×aB)
namespace M
def ret{α:Type}(a:α):M α:=λS=>ar (.ok a,S)
def bnd{α β:Type}(m:M α)(f:α->M β):M β:=λS=>match m S with
 |some (.ok a,S')=>f a S'
 |some (.ex x,S')=>ar (.ex x,S')
 |none=>none
def fail{α:Type}:M α:=λ_=>none
def raise{α:Type}(x:D):M α:=λS=>ar (.ex x,S)
noncomputable instance:Monad M where
 pure:=ret
 bind:=bnd
end M
def Nb(K:dt)(a:b_)(xs:List V):Prop:=∃(o:Obj) (its:Array aC) (n:Nat),K.lookup a=ar o/\o.cls= .type "list"/\o.dict=none/\o.data= .seq its n/\its.size<=sizeLine/\bj xs its.toList
def Em(K:dt)(H:Hp)(a:b_)(vs:List V):Prop:=(∃o,H a=ar (.frz o (.lst vs)))\/Nb K a vs
theorem Em.sq{K:dt}{H:Hp}{a:b_}{vs:List V}(h:Em K H a vs):jz K H a vs:=h.imp (λ⟨o,e⟩=>.inr ⟨o,e⟩) λz=>z
def nZ(C a:b_)(od:Option b_):fg->Prop:=λh=>∃oe vs,h.get? a=ar oe/\oe.cls= .ref C/\oe.dict=od/\oe.data= .fields vs
def rq(qual:Str)(c:b_):fg->Prop:=λh=>h.CodeRec (.ref c) qual
def cg:List Str:=["law","_law_within_right","_law_refusals_right","_law_sharings_right","_law_right","_law_lists_right","_law_papers_right","_law_great_right","_law_told_right","_law_desks_right","_law_texts_right"]
def TabsOk(K:dt)(H:Hp):Prop:=∀x∈cg,∀c P,mu K x=ar (c,P)->∃ps,H P=ar (.tbl ps)/\Tp ps.toList/\
 ∀pos cv,RJ pos ps.toList=ar cv->∃c',cv= .ref c'/\H c'=ar (.ext (rq (x++".<locals>.<lambda>") c'))
theorem TabsOk.mono{K:dt}{H Z:Hp}(h:TabsOk K H)(k:∀a o,H a=ar o->(∀vs,o≠ .lst vs)->Z a=ar o):TabsOk K Z:=λx Y c P e=>
 let ⟨ps,h1,h2,h3⟩:=h x Y c P e
 ⟨ps,k _ _ h1 (by intro _ z;cases z),h2,λpos cv q=>let ⟨c',e1,e2⟩:=h3 pos cv q;⟨c',e1,k _ _ e2 (by intro _ z;cases z)⟩⟩
mutual
inductive RelD(K:dt)(ι:List b_)(H:Hp):D->V->Prop where
 |non:RelD K ι H .non .non
 |bl (b:Bool):RelD K ι H (.bl b) (.bl b)
 |int (i:Int):RelD K ι H (.int i) (.int i)
 |str (x:Str):RelD K ι H (.str x) (.str x)
 |tup {a:b_} {ds:List D} {vs:List V}:H a=ar (.tup vs)->RelDs K ι H ds vs->RelD K ι H (.tup ds) (.ref a)
 |lst {a:b_} {k:Nat}:ι[k]? =ar a->RelD K ι H (.lst k) (.ref a)
 |ro {a:b_} {ds:List D} {vs:List V}:Em K H a vs->RelDs K ι H ds vs->RelD K ι H (.ro ds) (.ref a)
 |emp {a:b_}:H a=ar (.dK [])->RelD K ι H .emp (.ref a)
 |fn {a c:b_} {q:Str} {ds:List D} {vs:List V}:H c=ar (.ext (rq q c))->RelDs K ι H ds vs->RelD K ι H (.fn a c q ds vs) (.ref a)
 |exc {a C:b_} {x:Str}:v_ K f_ x=ar (ar (.ref C))->H a=ar (.ext (nZ C a none))->RelD K ι H (.exc x []) (.ref a)
 |excF {a C dx:b_} {x:Str} {fs:List (Str×V)} {ds:List D}:v_ K f_ x=ar (ar (.ref C))->H a=ar (.ext (nZ C a (ar dx)))->H dx=ar (.xd fs)->fs.map (·.1)=([("many":Str),("most":Str)]:List Str)->RelDs K ι H ds (fs.map (·.2))->RelD K ι H (.exc x ds) (.ref a)
 |fz {a:b_} {o:Obj} {ds:List D} {vs:List V}:H a=ar (.frz o (.lst vs))->RelDs K ι H ds vs->RelD K ι H (.fz ds) (.ref a)
inductive RelDs(K:dt)(ι:List b_)(H:Hp):List D->List V->Prop where
 |nil:RelDs K ι H [] []
 |cons {d:D} {v:V} {ds:List D} {vs:List V}:RelD K ι H d v->RelDs K ι H ds vs->RelDs K ι H (d::ds) (v::vs)
end
structure Rep(K:dt)(ι:List b_)(H:Hp)(S:aB):Prop where
 nd:ι.Nodup
 len:ι.length=S.length
 get:∀(k:Nat) (a:b_) (xs:List D),ι[k]? =ar a->S[k]? =ar xs->∃vs,H a=ar (.lst vs)/\RelDs K ι H xs vs
 tab:TabsOk K H
structure Ext(ι:List b_)(H:Hp)(ι':List b_)(H':Hp):Prop where
 ids:∃more,ι'=ι++more
 oth:∀a o,H a=ar o->a∉ι->(∀ps,o≠ .tbl ps)->H' a=ar o/\a∉ι'
structure ExtN(ι:List b_)(H:Hp)(ι':List b_)(H':Hp):Prop where
 ids:∃more,ι'=ι++more
 oth:∀a o,H a=ar o->a∉ι->(∀ps,o≠ .tbl ps)->(∀vs,o≠ .lst vs)->H' a=ar o/\a∉ι'
theorem Ext.n{ι Z:List b_}{H Y:Hp}(e:Ext ι H Z Y):ExtN ι H Z Y:=⟨e.ids,λa o h n t _=>e.oth a o h n t⟩
theorem Ext.refl{ι:List b_}{H:Hp}:Ext ι H ι H:=⟨⟨[],by simp⟩,λ_ _ h n _=>⟨h,n⟩⟩
theorem Ext.trans{ι Y Z:List b_}{H X W:Hp}(a:Ext ι H Y X)(b:Ext Y X Z W):Ext ι H Z W:=by obtain⟨U,e1⟩:=a.ids;obtain⟨T,e2⟩:=b.ids;exact⟨⟨U++T,by rw[e2,e1,NZ]⟩,λc o h n t=>let ⟨h1,n1⟩:=a.oth c o h n t;b.oth c o h1 n1 t⟩
theorem ExtN.at{ι Z:List b_}{H Y:Hp}(e:ExtN ι H Z Y){k:Nat}{a:b_}(h:ι[k]? =ar a):Z[k]? =ar a:=by obtain⟨m,rfl⟩:=e.ids;have X:k<ι.length:=(Nx.mp h).1;rw[N4 X];exact h
section
variable {K:dt}{ι ι':List b_}{H H':Hp}{S:aB}
theorem Rep.isL(r:Rep K ι H S)(h:a∈ι):∃vs,H a=ar (.lst vs):=by
 obtain⟨k,Y,e⟩:=List.mem_iff_getElem.mp h;have Z:k<S.length:=by rw[<-r.len];exact Y
 obtain⟨vs,X,_⟩:=r.get k a (S[k]) (by rw[Nw Y,e]) (Nw Z);exact⟨vs,X⟩
theorem Rep.notIn(r:Rep K ι H S)(h:H a=ar o)(Z:∀vs,o≠ .lst vs):a∉ι:=λz=>by obtain⟨vs,e⟩:=r.isL z;rw[h]at e;exact Z vs (NW e)
theorem Rep.free(r:Rep K ι H S)(h:H a=none):a∉ι:=λz=>by obtain⟨vs,e⟩:=r.isL z;rw[h]at e;cases e
mutual
theorem RelD.laterN(r:Rep K ι H S)(e:ExtN ι H ι' H'):∀{d:D} {v:V},RelD K ι H d v->RelD K ι' H' d v
 |_,_,.non=>.non
 |_,_,.bl b=>.bl b
 |_,_,.int i=>.int i
 |_,_,.str x=>.str x
 |_,_,.tup h hs=>.tup (e.oth _ _ h (r.notIn h (by intro _ z;cases z)) (by intro _ z;cases z) (by intro _ z;cases z)).1 (RelDs.laterN r e hs)
 |_,_,.lst h=>.lst (e.at h)
 |_,_,.ro h hs=>.ro (h.imp (λ⟨o,h⟩=>⟨o,(e.oth _ _ h (r.notIn h (by intro _ z;cases z)) (by intro _ z;cases z) (by intro _ z;cases z)).1⟩) λz=>z) (RelDs.laterN r e hs)
 |_,_,.emp h=>.emp (e.oth _ _ h (r.notIn h (by intro _ z;cases z)) (by intro _ z;cases z) (by intro _ z;cases z)).1
 |_,_,.fn h hs=>.fn (e.oth _ _ h (r.notIn h (by intro _ z;cases z)) (by intro _ z;cases z) (by intro _ z;cases z)).1 (RelDs.laterN r e hs)
 |_,_,.exc n h=>.exc n (e.oth _ _ h (r.notIn h (by intro _ z;cases z)) (by intro _ z;cases z) (by intro _ z;cases z)).1
 |_,_,.excF n h h2 hn hs=>.excF n (e.oth _ _ h (r.notIn h (by intro _ z;cases z)) (by intro _ z;cases z) (by intro _ z;cases z)).1 (e.oth _ _ h2 (r.notIn h2 (by intro _ z;cases z)) (by intro _ z;cases z) (by intro _ z;cases z)).1 hn (RelDs.laterN r e hs)
 |_,_,.fz h hs=>.fz (e.oth _ _ h (r.notIn h (by intro _ z;cases z)) (by intro _ z;cases z) (by intro _ z;cases z)).1 (RelDs.laterN r e hs)
theorem RelDs.laterN(r:Rep K ι H S)(e:ExtN ι H ι' H'):∀{ds:List D} {vs:List V},RelDs K ι H ds vs->RelDs K ι' H' ds vs
 |_,_,.nil=>.nil
 |_,_,.cons h hs=>.cons (RelD.laterN r e h) (RelDs.laterN r e hs)
end
theorem RelD.later(r:Rep K ι H S)(e:Ext ι H ι' H'){d:D}{v:V}(h:RelD K ι H d v):RelD K ι' H' d v:=RelD.laterN r e.n h
theorem RelDs.later(r:Rep K ι H S)(e:Ext ι H ι' H'){ds:List D}{vs:List V}(h:RelDs K ι H ds vs):RelDs K ι' H' ds vs:=RelDs.laterN r e.n h
theorem RelDs.length:∀{ds:List D} {vs:List V},RelDs K ι H ds vs->ds.length=vs.length
 |_,_,.nil=>rfl
 |_,_,.cons _ t=>by rw[NH,NH,RelDs.length t]
theorem RelDs.append:∀{ds es:List D} {vs ws:List V},RelDs K ι H ds vs->RelDs K ι H es ws->RelDs K ι H (ds++es) (vs++ws)
 |_,_,_,_,.nil,s=>s
 |_,_,_,_,.cons r t,s=>.cons r (RelDs.append t s)
theorem RelDs.get':∀{ds:List D} {vs:List V} {i:Nat} {d:D},RelDs K ι H ds vs->ds[i]? =ar d->∃v,vs[i]? =ar v/\RelD K ι H d v
 |_,_,_,_,.nil,e=>by simp at e
 |_,_,0,_,.cons r _,e=>by simp at e;subst e;exact⟨_,rfl,r⟩
 |_,_,i+1,v,.cons _ t,e=>by
  obtain⟨u,Y,Z⟩:=RelDs.get' (i:=i) t (by simpa using e);exact⟨u,by simpa using Y,Z⟩
theorem RelDs.take:∀{ds:List D} {vs:List V} (n:Nat),RelDs K ι H ds vs->RelDs K ι H (ds.take n) (vs.take n)
 |_,_,0,_=>.nil
 |_,_,_+1,.nil=>.nil
 |_,_,n+1,.cons r t=>.cons r (RelDs.take n t)
theorem RelDs.drop:∀{ds:List D} {vs:List V} (n:Nat),RelDs K ι H ds vs->RelDs K ι H (ds.drop n) (vs.drop n)
 |_,_,0,r=>r
 |_,_,_+1,.nil=>.nil
 |_,_,n+1,.cons _ t=>RelDs.drop n t
theorem RelDs.set(r:RelD K ι H d v):∀{ds:List D} {vs:List V} (i:Nat),RelDs K ι H ds vs->RelDs K ι H (ds.set i d) (vs.set i v)
 |_,_,_,.nil=>.nil
 |_,_,0,.cons _ t=>.cons r t
 |_,_,i+1,.cons q t=>.cons q (RelDs.set r i t)
theorem RelDs.eraseIdx:∀{ds:List D} {vs:List V} (i:Nat),RelDs K ι H ds vs->RelDs K ι H (ds.eraseIdx i) (vs.eraseIdx i)
 |_,_,_,.nil=>.nil
 |_,_,0,.cons _ t=>t
 |_,_,i+1,.cons q t=>.cons q (RelDs.eraseIdx i t)
theorem fM(Z:H p=none):Ext ι H ι (upd H p o):=⟨⟨[],by simp⟩,λa Y h n _=>⟨by rw[aM (aN h Z)];exact h,n⟩⟩
theorem gX{p:b_}{o:HO}(r:Rep K ι H S)(Z:H p=none):Rep K ι (upd H p o) S:=by refine⟨r.nd,r.len,λk a xs e1 e2=>?_,r.tab.mono λb o h _=>by rw[aM (aN h Z)];exact h⟩;obtain⟨vs,Y,X⟩:=r.get k a xs e1 e2;exact⟨vs,by rw[aM (aN Y Z)];exact Y,RelDs.later r (fM Z) X⟩
theorem vg(Z:H p=none):Ext ι H (ι++[p]) (upd H p o):=⟨⟨[p],rfl⟩,λa Y h n _=>⟨by rw[aM (aN h Z)];exact h,by have:a≠p:=aN h Z;simp[n,this]⟩⟩
theorem BC{p:b_}{xs:List D}{vs:List V}(r:Rep K ι H S)(Z:H p=none)(h:RelDs K ι H xs vs):Rep K (ι++[p]) (upd H p (.lst vs)) (S++[xs]):=by
 have U:Ext ι H (ι++[p]) (upd H p (.lst vs)):=vg Z;refine⟨?_,by simp[r.len],λk a ys e1 e2=>?_,r.tab.mono λb o h _=>by rw[aM (aN h Z)];exact h⟩
 ·rw[List.nodup_append];refine⟨r.nd,by simp,λa R b T=>?_⟩;have:b=p:=by simpa using T
  subst this;rintro rfl;exact r.free Z R
 ·by_cases hk:k<ι.length
  ·rw[N4 hk]at e1;rw[N4 (by rw[<-r.len];exact hk)]at e2;obtain⟨ws,X,Q⟩:=r.get k a ys e1 e2;exact⟨ws,by rw[aM (aN X Z)];exact X,RelDs.later r U Q⟩
  ·have Y:k<(ι++[p]).length:=(Nx.mp e1).1;have:k=ι.length:=by simp at Y;omega
   subst this;simp at e1;rw[r.len]at e2;simp at e2;subst e1 e2;exact⟨vs,bg,RelDs.later r U h⟩
theorem pe:∀{l:List b_} {i j:Nat} {a:b_},l.Nodup->l[i]? =ar a->l[j]? =ar a->i=j
 |[],i,j,a,_,h,_=>by simp at h
 |x::r,0,0,a,_,_,_=>rfl
 |x::r,0,j+1,a,hn,h1,h2=>by
  simp at h1 h2;subst h1;exact absurd (NU h2) (Ow.mp hn).1
 |x::r,i+1,0,a,hn,h1,h2=>by
  simp at h1 h2;subst h2;exact absurd (NU h1) (Ow.mp hn).1
 |x::r,i+1,j+1,a,hn,h1,h2=>by
  simp at h1 h2;rw[pe (Ow.mp hn).2 h1 h2]
theorem tH(Z:a∈ι):Ext ι H ι (upd H a o):=⟨⟨[],by simp⟩,λb Y h n _=>⟨by rw[aM (λz=>n (by rw[z];exact Z))];exact h,n⟩⟩
theorem tI{a:b_}{k:Nat}{xs:List D}{vs:List V}(r:Rep K ι H S)(Z:ι[k]? =ar a)(h:RelDs K ι H xs vs):Rep K ι (upd H a (.lst vs)) (S.set k xs):=by
 have Y:a∈ι:=NU Z;have X:Ext ι H ι (upd H a (.lst vs)):=tH Y;refine⟨r.nd,by simp[r.len],λj b ys e1 e2=>?_,r.tab.mono λb o h n=>by obtain⟨ws,hw⟩:=r.isL Y;rw[aM (λz=>by subst z;rw[h]at hw;exact n ws (NW hw))];exact h⟩
 by_cases hj:j=k
 ·subst hj;rw[Z]at e1;cases e1;have R:j<S.length:=by rw[<-r.len];exact(Nx.mp Z).1
  rw[N9 R]at e2;cases e2;exact⟨vs,bg,RelDs.later r X h⟩
 ·rw[Ou (j' hj)]at e2;obtain⟨ws,T,Q⟩:=r.get j b ys e1 e2;have U:b≠a:=by
   rintro rfl;exact hj (pe r.nd e1 Z)
  exact⟨ws,by rw[aM U];exact T,RelDs.later r X Q⟩
end
abbrev XD:=D->List b_->aB->Hp->Prop
def cont(K:dt)(E:XD){α:Type}(c:M α)(ι:List b_)(S:aB)(H:Hp)(Q:α->List b_->aB->Hp->Prop):Prop:=
 ∃r S',c S=ar (r,S')/\∀ ι' H',Ext ι H ι' H'->Rep K ι' H' S'->match r with
  | .ok a=>Q a ι' S' H'
  | .ex x=>E x ι' S' H'
section
variable {K:dt}{E:XD}{ι:List b_}{S:aB}{H:Hp}{α β:Type}
theorem ai{c:M α}{f:α->M β}{Q:β->List b_->aB->Hp->Prop}(h:cont K E (c>>=f) ι S H Q):cont K E c ι S H (λa Z S1 X=>cont K E (f a) Z S1 X Q):=by
 obtain⟨r,R,e,k⟩:=h;have Y:M.bnd c f S=ar (r,R):=e;unfold M.bnd at Y;cases q:c S with
 |none=>rw[q]at Y;cases Y
 | some p=>
  obtain⟨O,S1⟩:=p;rw[q]at Y;cases O with
  |ok a=>exact⟨.ok a,S1,q,λZ X T rep1=>⟨r,R,Y,λU P N rep2=>k U P (T.trans N) rep2⟩⟩
  |ex x=>
   cases Y;exact⟨.ex x,_,q,λZ X T rep1=>k Z X T rep1⟩
theorem ak{c:M α}{Q T:α->List b_->aB->Hp->Prop}(h:cont K E c ι S H Q)(k:∀a ι' Z H',Ext ι H ι' H'->Rep K ι' H' Z->Q a ι' Z H'->T a ι' Z H'):cont K E c ι S H T:=by
 obtain⟨r,Z,e,q⟩:=h;refine⟨r,Z,e,λY X U rep1=>?_⟩;have:=q Y X U rep1;cases r with
 |ok a=>exact k a Y Z X U rep1 this
 |ex x=>exact this
theorem ah{a:α}{Q:α->List b_->aB->Hp->Prop}(h:cont K E (aw a) ι S H Q){Z:List b_}{Y:Hp}(x:Ext ι H Z Y)(r:Rep K Z Y S):Q a Z S Y:=by obtain⟨U,X,e,q⟩:=h;cases e;exact q Z Y x r
theorem ag{Q:α->List b_->aB->Hp->Prop}(h:cont K E (M.fail) ι S H Q):False:=by obtain⟨Y,Z,e,q⟩:=h;cases e
end
abbrev aI:=List (Option D)
inductive RelE(K:dt)(ι:List b_)(H:Hp):aI->St->Prop where
 |nil:RelE K ι H [] []
 |cons {o:Option D} {u:Option V} {ρ:aI} {σ:St}:(∀d,o=ar d->∃v,u=ar v/\RelD K ι H d v)->RelE K ι H ρ σ->RelE K ι H (o::ρ) (u::σ)
section
variable {K:dt}{ι ι':List b_}{S:aB}{H H':Hp}
theorem RelE.later(r:Rep K ι H S)(e:Ext ι H ι' H'):∀{ρ:aI} {σ:St},RelE K ι H ρ σ->RelE K ι' H' ρ σ
 |_,_,.nil=>.nil
 |_,_,.cons h t=>.cons (λd z=>let ⟨v,e1,e2⟩:=h d z;⟨v,e1,RelD.later r e e2⟩) (RelE.later r e t)
theorem RelE.get:∀{ρ:aI} {σ:St} {i:Nat} {d:D},RelE K ι H ρ σ->ρ[i]? =ar (ar d)->∃v,σ[i]? =ar (ar v)/\RelD K ι H d v
 |_,_,_,_,.nil,e=>by simp at e
 |_,_,0,_,.cons h _,e=>by
  simp at e;obtain⟨v,e1,e2⟩:=h _ e;exact⟨v,by simp[e1],e2⟩
 |_,_,i+1,_,.cons _ t,e=>by
  obtain⟨v,Z,Y⟩:=RelE.get (i:=i) t (by simpa using e);exact⟨v,by simpa using Z,Y⟩
theorem RelE.set(r:RelD K ι H d v):∀{ρ:aI} {σ:St} (i:Nat),RelE K ι H ρ σ->RelE K ι H (ρ.set i (ar d)) (σ.set i (ar v))
 |_,_,_,.nil=>.nil
 |_,_,0,.cons _ t=>.cons (λd' z=>by cases z;exact⟨v,rfl,r⟩) t
 |_,_,i+1,.cons q t=>.cons q (RelE.set r i t)
theorem RelE.start:∀{ds:List D} {vs:List V},RelDs K ι H ds vs->∀n,RelE K ι H (ds.map ar++k_ n none) (vs.map ar++k_ n none)
 |_,_,.nil,n=>by
  induction n with
  |zero=>exact .nil
  |succ n ih=>exact .cons (λd z=>by cases z) ih
 |_,_,.cons r t,n=>.cons (λd z=>by cases z;exact⟨_,rfl,r⟩) (RelE.start t n)
end
abbrev TM:=aI->M D
def lg(K:dt)(Q:VK):D->List b_->aB->Hp->Prop:=λd ι' _ H'=>∀v,RelD K ι' H' d v->Q v H'
def tM(K:dt)(E:XD)(m:TM):TE:=λσ H Q=>∃ ι S ρ,Rep K ι H S/\RelE K ι H ρ σ/\cont K E (m ρ) ι S H (lg K Q)
def SE(X:Cx)(E:XD)(e:Expr)(m:TM):Prop:=PE X e (tM X.K E m)
def GC(K:dt)(E:XD)(m:aI->M Bool):TT:=λσ H Q=>∃ ι S ρ,Rep K ι H S/\RelE K ι H ρ σ/\cont K E (m ρ) ι S H (λb _ _ H'=>Q b H')
def SB(X:Cx)(E:XD)(e:Expr)(m:aI->M Bool):Prop:=PT X e (GC X.K E m)
def HS(X:Cx)(E:XD)(e:Expr)(m:aI->M Bool):Prop:=PW X e (GC X.K E m)
def Mv(K:dt)(E:XD)(m:aI->M (List D)):TA:=λσ H Q=>∃ ι S ρ,Rep K ι H S/\RelE K ι H ρ σ/\cont K E (m ρ) ι S H (λds ι' _ H'=>∀vs,RelDs K ι' H' ds vs->Q vs H')
def SA(X:Cx)(E:XD)(es:List Expr)(m:aI->M (List D)):Prop:=PA X es (Mv X.K E m)
inductive Out where
 |nx (ρ:aI)|ret (d:D)|bk (ρ:aI)|ct (ρ:aI)
abbrev du:=aI->M Out
def HU(K:dt)(T:Ends):Out->List b_->aB->Hp->Prop:=λo ι' _ H'=>match o with
 | .nx ρ=>∀ σ,RelE K ι' H' ρ σ->T.nx σ H'
 | .ret d=>∀v,RelD K ι' H' d v->T.rt v H'
 | .bk ρ=>∀ σ,RelE K ι' H' ρ σ->T.bk σ H'
 | .ct ρ=>∀ σ,RelE K ι' H' ρ σ->T.ct σ H'
def MU(K:dt)(E:XD)(m:du):TS:=λT σ H=>∃ ι S ρ,Rep K ι H S/\RelE K ι H ρ σ/\cont K E (m ρ) ι S H (HU K T)
def SS(X:Cx)(E:XD)(st:sb)(m:du):Prop:=PS X st (MU X.K E m)
def vh(X:Cx)(E:XD)(st:List sb)(m:du):Prop:=rg X st (MU X.K E m)
abbrev nE:=D->aI->M aI
def Ks(K:dt)(E:XD)(m:nE):TG:=λv σ H Q=>∃ ι S ρ d,Rep K ι H S/\RelE K ι H ρ σ/\RelD K ι H d v/\cont K E (m d ρ) ι S H (λρ' ι' _ H'=>∀ σ',RelE K ι' H' ρ' σ'->Q σ' H')
def SG(X:Cx)(E:XD)(tg:Expr)(m:nE):Prop:=PG X tg (Ks X.K E m)
theorem PE.imp{X:Cx}{e:Expr}{t t':TE}(h:PE X e t)(k:∀ σ H Q,t' σ H Q->t σ H Q):PE X e t':=λpins s σ H Q I hw=>h pins s σ H Q I (k σ H Q hw)
theorem PT.imp{X:Cx}{e:Expr}{t t':TT}(h:PT X e t)(k:∀ σ H Q,t' σ H Q->t σ H Q):PT X e t':=λpins s σ H Q I hw=>h pins s σ H Q I (k σ H Q hw)
theorem PW.imp{X:Cx}{e:Expr}{t t':TT}(h:PW X e t)(k:∀ σ H Q,t' σ H Q->t σ H Q):PW X e t':=λZ pins s σ H Q I hw=>h Z pins s σ H Q I (k σ H Q hw)
theorem PA.imp{X:Cx}{e:List Expr}{t t':TA}(h:PA X e t)(k:∀ σ H Q,t' σ H Q->t σ H Q):PA X e t':=λpos pins s σ H Q I hw=>h pos pins s σ H Q I (k σ H Q hw)
theorem PS.imp{X:Cx}{e:sb}{t t':TS}(h:PS X e t)(k:∀D σ H,t' D σ H->t D σ H):PS X e t':=λpins s σ H D I hw=>h pins s σ H D I (k D σ H hw)
theorem rg.imp{X:Cx}{e:List sb}{t t':TS}(h:rg X e t)(k:∀D σ H,t' D σ H->t D σ H):rg X e t':=λpins s σ H D I hw=>h pins s σ H D I (k D σ H hw)
theorem PG.imp{X:Cx}{e:Expr}{t t':TG}(h:PG X e t)(k:∀v σ H Q,t' v σ H Q->t v σ H Q):PG X e t':=λpins s σ H v u Q I r hw=>h pins s σ H v u Q I r (k v σ H Q hw)
section
variable {X:Cx}{E:XD}{a b e:Expr}{m n:TM}{pos:Pos}
def GD(ρ:aI)(i:Nat):M D:=match ρ[i]? with
 |some (ar d)=>aw d
 |_=>M.fail
theorem aa(i:Nat)(W:X.N[i]? =ar x:=by rfl)(U:Gv X.env.scope x:=by first|exact SC rfl|exact Si (SC rfl)|exact Si (Si rfl))(Z:(x==("__debug__":Str))=false:=by decide)
  (Y:(x==("__classdict__":Str))=false:=by decide):SE X E (.Name x pos) (λρ=>GD ρ i):=by
 refine PE.imp (wK W U Z Y) λσ H Q h=>?_;obtain⟨ι,S,ρ,rep,re,c⟩:=h;unfold GD at c;dsimp only at c;split at c
 ·next d Z=>
  obtain⟨v,e1,e2⟩:=re.get Z;exact⟨v,e1,ah c .refl rep v e2⟩
 ·exact(ag c).elim
theorem iK(h:PE X e (tC v))(Z:∀ ι H,RelD X.K ι H d v):SE X E e (λ_=>aw d):=by refine PE.imp h λσ H Q h=>?_;obtain⟨ι,S,ρ,rep,re,c⟩:=h;exact ah c .refl rep v (Z _ _)
theorem au{j}:SE X E (.Constant (.int i) j pos) (λ_=>aw (.int i)):=iK Bd λ_ _=>.int i
theorem fA{j}:SE X E (.Constant (.bool i) j pos) (λ_=>aw (.bl i)):=iK J0 λ_ _=>.bl i
theorem fh{j}:SE X E (.Constant .none j pos) (λ_=>aw .non):=iK Hh λ_ _=>.non
theorem bA{j}:SE X E (.Constant (.str x) j pos) (λ_=>aw (.str x)):=iK Hi λ_ _=>.str x
theorem EU(Z:Gl X x)(Y:X.mg x=ar (.int i t))(W:(x==("__debug__":Str))=false:=by decide):SE X E (.Name x pos) (λ_=>aw (.int i)):=
 iK (sW Z Y (v:=.int i) ⟨t,rfl⟩ W) λ_ _=>.int i
def ou(K:dt)(E:XD)(f:D->D->M D)(r:R2):Prop:=
 ∀ ι S H d1 d2 v1 v2 Q,Rep K ι H S->RelD K ι H d1 v1->RelD K ι H d2 v2->cont K E (f d1 d2) ι S H (lg K Q)->r v1 v2 H Q
theorem EV(O:ou X.K E f r)(h:tM X.K E (λρ=>do let x<-m ρ;let y<-n ρ;f x y) σ H Q):Kd r (tM X.K E m) (tM X.K E n) σ H Q:=by obtain⟨ι,S,ρ,rep,re,c⟩:=h;refine⟨ι,S,ρ,rep,re,ak (ai c) λx Y S1 L e1 rep1 N v1 T=>?_⟩;refine⟨Y,S1,ρ,rep1,re.later rep e1,ak (ai N) λy Z P U e2 rep2 R v2 W=>?_⟩;exact O Z P U x y v1 v2 Q rep2 (T.later rep1 e2) W R
theorem pj(h:gv X (t_ op) r)(Y:ou X.K E f r)(W:SE X E a m)(Z:SE X E b n):SE X E (.BinOp a op b pos) (λρ=>do let x<-m ρ;let y<-n ρ;f x y):=
 PE.imp (Ke h W Z) λ_ _ _ q=>EV Y q
theorem tJ(h:gv X (ip op) r)(W:ou X.K E f r)(U:SE X E a m)(Z:SE X E b n)(Y:ly op b=false:=by first|exact uV _ (by decide) (by decide)|rfl):
  SE X E (.Compare a [op] [b] pos) (λρ=>do let x<-m ρ;let y<-n ρ;f x y):=
 PE.imp (EE h U Z Y) λ_ _ _ q=>EV W q
theorem GE(h:El X r)(Y:ou X.K E f r)(W:SE X E a m)(Z:SE X E b n)(hs:lB b:=by intro _ _;rfl):SE X E (.Subscript a b pos) (λρ=>do let x<-m ρ;let y<-n ρ;f x y):=
 PE.imp (Ko h W Z hs) λ_ _ _ q=>EV Y q
end
def lim:Nat:=10000000
theorem fF:lim<=sizeLine:=by rw[Oo];decide
theorem HV:lim<sizeLine:=by rw[Oo];decide
section
variable {K:dt}{ι:List b_}{H:Hp}
theorem RelD.bl_inv(h:RelD K ι H (.bl b) v):v= .bl b:=by cases h;rfl
theorem RelD.int_inv(h:RelD K ι H (.int b) v):v= .int b:=by cases h;rfl
theorem RelD.str_inv(h:RelD K ι H (.str b) v):v= .str b:=by cases h;rfl
theorem RelD.non_inv(h:RelD K ι H .non v):v= .non:=by cases h;rfl
theorem RelD.tup_inv(h:RelD K ι H (.tup ds) v):∃a vs,v= .ref a/\H a=ar (.tup vs)/\RelDs K ι H ds vs:=by
 cases h with
 |tup h1 h2=>exact⟨_,_,rfl,h1,h2⟩
theorem RelD.lst_inv(h:RelD K ι H (.lst k) v):∃a,v= .ref a/\ι[k]? =ar a:=by
 cases h with
 |lst h1=>exact⟨_,rfl,h1⟩
theorem RelD.ro_inv(h:RelD K ι H (.ro ds) v):∃a vs,v= .ref a/\Em K H a vs/\RelDs K ι H ds vs:=by
 cases h with
 |ro h1 h2=>exact⟨_,_,rfl,h1,h2⟩
theorem RelD.fz_inv(h:RelD K ι H (.fz ds) v):∃a o vs,v= .ref a/\H a=ar (.frz o (.lst vs))/\RelDs K ι H ds vs:=by
 cases h with
 |fz h1 h2=>exact⟨_,_,_,rfl,h1,h2⟩
theorem RelDs.nil_inv(h:RelDs K ι H [] vs):vs=[]:=by cases h;rfl
theorem RelDs.cons_inv(h:RelDs K ι H (d::ds) vs):∃v ws,vs=v::ws/\RelD K ι H d v/\RelDs K ι H ds ws:=by
 cases h with
 |cons h1 h2=>exact⟨_,_,rfl,h1,h2⟩
end
def iZ:D->M Bool
 | .bl b=>aw b
 |_=>M.fail
def getL(k:Nat):M (List D):=λS=>(S[k]?).bind λxs=>ar (.ok xs,S)
def bp(ds:List D):M D:=λS=>if ds.length<=lim then ar (.ok (.lst S.length),S++[ds])else none
def kG(k:Nat)(ds:List D):M D:=λS=>if ds.length<=lim/\k<S.length then ar (.ok .non,S.set k ds)else none
def cW(ds:List D):M D:=if ds.length<=lim then aw (.tup ds)else M.fail
section
variable {K:dt}{E:XD}{ι:List b_}{S:aB}{H:Hp}{α:Type}
theorem lJ{f:Bool->M α}(Z:Rep K ι H S)(r:RelD K ι H x v)(c:cont K E (iZ x>>=f) ι S H Q):∃b,v= .bl b/\x= .bl b/\cont K E (f b) ι S H Q:=by
 cases x with
 |bl b=>exact⟨b,r.bl_inv,rfl,ah (ai c) .refl Z⟩
 |_=>exact(ag (ai c)).elim
theorem lK{Q:Bool->List b_->aB->Hp->Prop}(Z:Rep K ι H S)(r:RelD K ι H x v)(c:cont K E (iZ x) ι S H Q):∃b,v= .bl b/\x= .bl b/\Q b ι S H:=by
 cases x with
 |bl b=>exact⟨b,r.bl_inv,rfl,ah c .refl Z⟩
 |_=>exact(ag c).elim
theorem Af{Q:D->List b_->aB->Hp->Prop}(c:cont K E (bp ds) ι S H Q)(Z:Rep K ι H S)(r:RelDs K ι H ds vs):
  vs.length<=lim/\∀p,H p=none->Q (.lst S.length) (ι++[p]) (S++[ds]) (upd H p (.lst vs)):=by
 obtain⟨U,X,e,q⟩:=c;unfold bp at e;split at e
 ·next hl=>
  cases e;exact⟨by rw[<-r.length];exact hl,λp Y=>q _ _ (vg Y) (BC Z Y r)⟩
 ·cases e
theorem BD(Z:Rep K ι H S):RelD K (ι++[p]) H' (.lst S.length) (.ref p):=.lst (by rw[<-Z.len];simp)
theorem bt{Q:VK}(c:cont K E (bp ds) ι S H (lg K Q))(Z:Rep K ι H S)(r:RelDs K ι H ds vs):vs.length<=lim/\∀p,H p=none->Q (.ref p) (upd H p (.lst vs)):=
 let ⟨h1,h2⟩:=Af c Z r
 ⟨h1,λp Y=>h2 p Y _ (BD Z)⟩
theorem fG{Q:VK}(c:cont K E (cW ds) ι S H (lg K Q))(Z:Rep K ι H S)(r:RelDs K ι H ds vs):vs.length<=lim/\∀p,H p=none->Q (.ref p) (upd H p (.tup vs)):=by
 unfold cW at c;split at c
 ·next hl=>
  refine⟨by rw[<-r.length];exact hl,λp Y=>?_⟩;exact ah c (fM Y) (gX Z Y) _ (.tup bg (r.later Z (fM Y)))
 ·exact(ag c).elim
theorem i7{Q:VK}(c:cont K E (cW ds) ι S H (lg K Q))(Z:Rep K ι H S)(h:H a=ar (.tup vs))(r:RelDs K ι H ds vs):Q (.ref a) H:=by
 unfold cW at c;split at c
 ·exact ah c .refl Z _ (.tup h r)
 ·exact(ag c).elim
theorem br{f:List D->M α}(c:cont K E (getL k>>=f) ι S H Q)(Z:Rep K ι H S)(X:ι[k]? =ar a):
  ∃ds vs,S[k]? =ar ds/\H a=ar (.lst vs)/\RelDs K ι H ds vs/\cont K E (f ds) ι S H Q:=by
 obtain⟨R,T,e,q⟩:=ai c;unfold getL at e;cases z:S[k]? with
 |none=>rw[z]at e;cases e
 |some ds=>
  rw[z]at e;cases e;obtain⟨vs,Y,U⟩:=Z.get k a ds X z;exact⟨ds,vs,rfl,Y,U,q ι H .refl Z⟩
theorem iL{Q:D->List b_->aB->Hp->Prop}(c:cont K E (kG k ds) ι S H Q)(Z:Rep K ι H S)(Y:ι[k]? =ar a)(r:RelDs K ι H ds vs):
  vs.length<=lim/\Q .non ι (S.set k ds) (upd H a (.lst vs)):=by
 obtain⟨U,X,e,q⟩:=c;unfold kG at e;split at e
 ·next hl=>
  cases e;exact⟨by rw[<-r.length];exact hl.1,q _ _ (tH (NU Y)) (tI Z Y r)⟩
 ·cases e
end
section
variable {X:Cx}{E:XD}{a b e:Expr}{m n:TM}{pos:Pos}{rest es:List Expr}{ms:aI->M (List D)}{t u:aI->M Bool}
theorem kH{op}(h:SE X E a m):SE X E (.BoolOp op [a] pos) m:=Hn h
theorem jD(T:SE X E a m)(W:SE X E (.BoolOp .And (b::rest) pos) n):SE X E (.BoolOp .And (a::b::rest) pos) (λρ=>do let x<-m ρ;let c<-iZ x;if c=c_ then n ρ else aw (.bl dr)):=by
 refine PE.imp (Ho T W) λσ H Q h=>?_;obtain⟨ι,S,ρ,rep,re,c⟩:=h;refine⟨ι,S,ρ,rep,re,ak (ai c) λx Z S1 P e1 rep1 R v1 U=>?_⟩;obtain⟨k,rfl,rfl,Y⟩:=lJ rep1 U R;refine⟨k,rfl,?_⟩;cases k with
 |true=>exact⟨Z,S1,ρ,rep1,re.later rep e1,Y⟩
 |false=>exact ah Y .refl rep1 _ (.bl dr)
theorem BE(W:SE X E a m):SE X E (.UnaryOp .Not a pos) (λρ=>do let x<-m ρ;let c<-iZ x;aw (.bl (!c))):=by refine PE.imp (Hq W) λσ H Q h=>?_;obtain⟨ι,S,ρ,rep,re,c⟩:=h;refine⟨ι,S,ρ,rep,re,ak (ai c) λx U S1 R e1 rep1 T v1 Z=>?_⟩;obtain⟨k,rfl,rfl,Y⟩:=lJ rep1 Z T;exact⟨k,rfl,ah Y .refl rep1 _ (.bl _)⟩
theorem GF(U:SB X E c t)(T:SE X E a m)(W:SE X E b n):SE X E (.IfExp c a b pos) (λρ=>do let k<-t ρ;if k=c_ then m ρ else n ρ):=by
 refine PE.imp (Be U T W) λσ H Q h=>?_;obtain⟨ι,S,ρ,rep,re,c⟩:=h;refine⟨ι,S,ρ,rep,re,ak (ai c) λk Z S1 R e1 rep1 Y=>?_⟩;cases k with
 |true=>exact⟨Z,S1,ρ,rep1,re.later rep e1,Y⟩
 |false=>exact⟨Z,S1,ρ,rep1,re.later rep e1,Y⟩
theorem Kt(h:GC X.K E (λρ=>do let x<-m ρ;iZ x) σ H Q):tB (tM X.K E m) σ H Q:=by obtain⟨ι,S,ρ,rep,re,c⟩:=h;refine⟨ι,S,ρ,rep,re,ak (ai c) λx W S1 T e1 rep1 U v1 Z=>?_⟩;obtain⟨k,rfl,rfl,Y⟩:=lK rep1 Z U;exact⟨k,rfl,Y⟩
theorem cZ(h:SE X E e m)(Z:∀whole,isTrue e X.env whole=(do let v<-whole;Tu e.pos;J' [v] (truthy v)):=by intro _;rfl):SB X E e (λρ=>do let x<-m ρ;iZ x):=
 PT.imp (Hj h Z) λ_ _ _ q=>Kt q
theorem kI(h:gv X (ip op) r)(P:ou X.K E f r)(R:SE X E a m)(Z:SE X E b n)(W:ly op b=false:=by first|exact uV _ (by decide) (by decide)|rfl):
  SB X E (.Compare a [op] [b] pos) (λρ=>do let z<-(do let x<-m ρ;let y<-n ρ;f x y);iZ z):=
 PT.imp (EF h R Z W) λσ H Q q=>by obtain⟨ι,S,ρ,rep,re,c⟩:=q;refine EV P (Q:=λx Y=>∃k,x= .bl k/\Q k Y) ⟨ι,S,ρ,rep,re,ak (ai c) λx O S1 L e1 rep1 N v1 U=>?_⟩;obtain⟨k,rfl,rfl,T⟩:=lK rep1 U N;exact⟨k,rfl,T⟩
theorem c0(h:SB X E a t):SB X E (.UnaryOp .Not a pos) (λρ=>do let c<-t ρ;aw (!c)):=by refine PT.imp (Hm h) λσ H Q q=>?_;obtain⟨ι,S,ρ,rep,re,c⟩:=q;exact⟨ι,S,ρ,rep,re,ak (ai c) λk Z S1 W e1 rep1 Y=>ah Y .refl rep1⟩
theorem tK(h:SB X E a t):HS X E (.BoolOp .And [a] pos) t:=Er h
theorem i8(h:SB X E a t):HS X E (.BoolOp .Or [a] pos) t:=Hk h
theorem xb(U:SB X E a t)(W:HS X E (.BoolOp .And (b::rest) pos) u):HS X E (.BoolOp .And (a::b::rest) pos) (λρ=>do let c<-t ρ;if c=c_ then u ρ else aw dr):=by
 refine PW.imp (Hl U W) λσ H Q q=>?_;obtain⟨ι,S,ρ,rep,re,c⟩:=q;refine⟨ι,S,ρ,rep,re,ak (ai c) λk Z S1 T e1 rep1 Y=>?_⟩;cases k with
 |true=>exact⟨Z,S1,ρ,rep1,re.later rep e1,Y⟩
 |false=>exact ah Y .refl rep1
theorem gz(U:SB X E a t)(W:HS X E (.BoolOp .Or (b::rest) pos) u):HS X E (.BoolOp .Or (a::b::rest) pos) (λρ=>do let c<-t ρ;if c=c_ then aw c_ else u ρ):=by
 refine PW.imp (J1 U W) λσ H Q q=>?_;obtain⟨ι,S,ρ,rep,re,c⟩:=q;refine⟨ι,S,ρ,rep,re,ak (ai c) λk Z S1 T e1 rep1 Y=>?_⟩;cases k with
 |false=>exact⟨Z,S1,ρ,rep1,re.later rep e1,Y⟩
 |true=>exact ah Y .refl rep1
theorem n0(h:HS X E e t):SB X E e t:=PW.pt h
theorem ao:SA X E [] (λ_=>aw []):=by refine PA.imp kF λσ H Q q=>?_;obtain⟨ι,S,ρ,rep,re,c⟩:=q;exact ah c .refl rep _ .nil
theorem af(P:SE X E e m)(T:SA X E es ms)(hs:dV (e::es) X.env=(dr,g6 e X.env)::dV es X.env:=by rfl):SA X E (e::es) (λρ=>do let x<-m ρ;let xs<-ms ρ;aw (x::xs)):=by refine PA.imp (fe P T hs) λσ H Q q=>?_;obtain⟨ι,S,ρ,rep,re,c⟩:=q;refine⟨ι,S,ρ,rep,re,ak (ai c) λx Z S1 N e1 rep1 O v1 W=>?_⟩;refine⟨Z,S1,ρ,rep1,re.later rep e1,ak (ai O) λxs U K L e2 rep2 R vs Y=>?_⟩;exact ah R .refl rep2 _ (.cons (W.later rep1 e2) Y)
theorem i9{x1}(h:SA X E es ms):SE X E (.Tuple es x1 pos) (λρ=>do let ds<-ms ρ;cW ds):=by refine PE.imp (Bp h) λσ H Q q=>?_;obtain⟨ι,S,ρ,rep,re,c⟩:=q;refine⟨ι,S,ρ,rep,re,ak (ai c) λx U S1 R e1 rep1 T vs Z=>?_⟩;obtain⟨Y,W⟩:=fG T rep1 Z;exact⟨Nz Y fF,W⟩
theorem bG(h:SA X E es ms):SE X E (.List es pos) (λρ=>do let ds<-ms ρ;bp ds):=by refine PE.imp (HI h) λσ H Q q=>?_;obtain⟨ι,S,ρ,rep,re,c⟩:=q;refine⟨ι,S,ρ,rep,re,ak (ai c) λx U S1 R e1 rep1 T vs Z=>?_⟩;obtain⟨Y,W⟩:=bt T rep1 Z;exact⟨Nz Y fF,W⟩
def jo(K:dt)(E:XD)(f:List D->M D)(r:List V->Hp->VK->Prop):Prop:=
 ∀ ι S H ds vs Q,Rep K ι H S->RelDs K ι H ds vs->cont K E (f ds) ι S H (lg K Q)->r vs H Q
theorem Ku(W:jo X.K E f r)(h:tM X.K E (λρ=>do let ds<-ms ρ;f ds) σ H Q):Mq r (Mv X.K E ms) σ H Q:=by obtain⟨ι,S,ρ,rep,re,c⟩:=h;exact⟨ι,S,ρ,rep,re,ak (ai c) λds Z S1 Y e1 rep1 T vs U=>W Z S1 Y ds vs Q rep1 U T⟩
theorem iM{x:Str}{W:String}{f:List D->M D}{r:List V->Hp->VK->Prop}{p:Pos}(P:cY X (.builtin W) r)(R:jo X.K E f r)(U:Gl X x)(T:X.mg x=none)(O:la x=ar (.builtin W))(N:SA X E (e::es) ms)
  (S:x≠"__name__":=by decide) (Y:(x==("__debug__":Str))=false:=by decide) (Q:dV (e::es) X.env=(dr,g6 e X.env)::dV es X.env:=by rfl) (Z:(u' pos (dV es X.env)).any (·.1)=false:=by rfl):
  SE X E (.Call (.Name x p) (e::es) [] pos) (λρ=>do let ds<-ms ρ;f ds):=
 PE.imp (jA P U T O N S Y Q Z) λ_ _ _ q=>Ku R q
theorem jZ(P:cY X (.type T) r)(Q:jo X.K E f r)(U:Gl X x)(S:X.mg x=none)(O:la x=ar (.type T))(N:SA X E (e::es) ms)
  (W:x≠"__name__":=by decide) (Y:(x==("__debug__":Str))=false:=by decide) (R:dV (e::es) X.env=(dr,g6 e X.env)::dV es X.env:=by rfl) (Z:(u' pos (dV es X.env)).any (·.1)=false:=by rfl):
  SE X E (.Call (.Name x p) (e::es) [] pos) (λρ=>do let ds<-ms ρ;f ds):=
 PE.imp (jX P U S O N W Y R Z) λ_ _ _ q=>Ku Q q
abbrev fH:XD:=λ_ _ _ _=>False
def Nd(K:dt)(F:List D->M D):Sp:=λvs H Q _=>∃ ι S ds,Rep K ι H S/\RelDs K ι H ds vs/\cont K fH (F ds) ι S H (lg K Q)
def EX(K:dt)(E:XD)(f:D->List D->M D)(r:V->List V->Hp->VK->Prop):Prop:=
 ∀ ι S H d ds v vs Q,Rep K ι H S->RelD K ι H d v->RelDs K ι H ds vs->cont K E (f d ds) ι S H (lg K Q)->r v vs H Q
end
theorem gC{K:dt}{E:XD}{U:Type}{c:M U}{ι Z:List b_}{S:aB}{H X:Hp}{Q:U->List b_->aB->Hp->Prop}(h:cont K E c ι S H Q)(e:Ext ι H Z X):cont K E c Z S X Q:=by obtain⟨r,R,q,k⟩:=h;exact⟨r,R,q,λY T P rep2=>k Y T (e.trans P) rep2⟩
section
variable {X:Cx}{E:XD}{st:sb}{sts:List sb}{m n:du}{e:Expr}{me:TM}{t:aI->M Bool}{pos:Pos}{g:nE}
def BF(o:Out)(n:du):M Out:=match o with
 | .nx ρ=>n ρ
 | .ret d=>aw (.ret d)
 | .bk ρ=>aw (.bk ρ)
 | .ct ρ=>aw (.ct ρ)
theorem bR:vh X E [] (λρ=>aw (.nx ρ)):=by refine rg.imp Es λT σ H h=>?_;obtain⟨ι,S,ρ,rep,re,c⟩:=h;exact ah c .refl rep σ re
theorem av(U:SS X E st m)(Q:vh X E sts n):vh X E (st::sts) (λρ=>do let o<-m ρ;BF o n):=by
 refine rg.imp (Bg U Q) λT σ H h=>?_;obtain⟨ι,S,ρ,rep,re,c⟩:=h;refine⟨ι,S,ρ,rep,re,ak (ai c) λo W S1 P e1 rep1 Z=>?_⟩;cases o with
 |nx ρ'=>exact λR Y=>⟨W,S1,ρ',rep1,Y,Z⟩
 |ret d=>exact ah Z .refl rep1
 |bk ρ'=>exact ah Z .refl rep1
 |ct ρ'=>exact ah Z .refl rep1
theorem aO(Z:SS X E st m):vh X E [st] m:=by refine rg.imp (yd Z) λT σ H h=>h
theorem gY(Z:SE X E e me)(hs:l_ e none pos.line X.env=aw false:=by rfl):SS X E (.Expr e pos) (λρ=>do let _<-me ρ;aw (.nx ρ)):=by refine PS.imp (Et Z hs) λT σ H h=>?_;obtain⟨ι,S,ρ,rep,re,c⟩:=h;refine⟨ι,S,ρ,rep,re,ak (ai c) λd Y S1 U e1 rep1 W v r=>?_⟩;exact ah W .refl rep1 σ (re.later rep e1)
theorem aV(Z:SE X E e me):SS X E (.Return (ar e) pos) (λρ=>do let d<-me ρ;aw (.ret d)):=by refine PS.imp (Hr Z) λT σ H h=>?_;obtain⟨ι,S,ρ,rep,re,c⟩:=h;exact⟨ι,S,ρ,rep,re,ak (ai c) λd Y S1 U e1 rep1 W=>ah W .refl rep1⟩
theorem cX(U:SB X E e t)(R:vh X E a m)(W:vh X E b n):SS X E (.If e a b pos) (λρ=>do let c<-t ρ;if c=c_ then m ρ else n ρ):=by
 refine PS.imp (J6 U R W) λT σ H h=>?_;obtain⟨ι,S,ρ,rep,re,c⟩:=h;refine⟨ι,S,ρ,rep,re,ak (ai c) λk Z S1 Q e1 rep1 Y=>?_⟩;cases k with
 |true=>exact⟨Z,S1,ρ,rep1,re.later rep e1,Y⟩
 |false=>exact⟨Z,S1,ρ,rep1,re.later rep e1,Y⟩
theorem aW(i:Nat)(Z:X.N.Nodup)(W:X.N[i]? =ar x:=by rfl)(Y:Loc X.env.scope x:=by first|exact SC rfl|exact Si rfl)(U:X.fn x=c_\/X.env.scope.names.lookup x=ar .local:=by first|exact .inl rfl|exact .inr rfl|assumption):
  SG X E (.Name x pos) (λd ρ=>aw (ρ.set i (ar d))):=by
 refine PG.imp (Ey Z W Y U) λv σ H Q h=>?_;obtain⟨ι,S,ρ,d,rep,re,r,c⟩:=h;exact ah c .refl rep _ (re.set r i)
def Mw(K:dt)(E:XD)(m:List D->aI->M aI):Eu:=λvs σ H Q=>∃ ι S ρ ds,Rep K ι H S/\RelE K ι H ρ σ/\RelDs K ι H ds vs/\cont K E (m ds ρ) ι S H (λρ' ι' _ H'=>∀ σ',RelE K ι' H' ρ' σ'->Q σ' H')
def LG(X:Cx)(E:XD)(ts:List Expr)(m:List D->aI->M aI):Prop:=Ei X ts (Mw X.K E m)
theorem Ei.imp{X:Cx}{e:List Expr}{t t':Eu}(h:Ei X e t)(k:∀v σ H Q,t' v σ H Q->t v σ H Q):Ei X e t':=λpins s σ H v u Q I r hw=>h pins s σ H v u Q I r (k v σ H Q hw)
def fV:List D->aI->M aI:=λds ρ=>match ds with
 |[]=>aw ρ
 |_=>M.fail
def bu(g:nE)(gs:List D->aI->M aI):List D->aI->M aI:=λds ρ=>match ds with
 |d::r=>do let ρ1<-g d ρ;gs r ρ1
 |_=>M.fail
theorem gj:LG X E [] fV:=by
 refine Ei.imp Ez λvs σ H Q h=>?_;obtain⟨ι,S,ρ,ds,rep,re,r,c⟩:=h;cases ds with
 |nil=>exact⟨r.nil_inv,ah c .refl rep σ re⟩
 |cons d ds=>exact(ag c).elim
theorem bI(T:SG X E e g)(O:LG X E es gs)(hs:(pb (e::es) X.env).map (·.2)=RW e X.env::(pb es X.env).map (·.2):=by rfl):LG X E (e::es) (bu g gs):=by
 refine Ei.imp (Bi T O hs) λvs σ H Q h=>?_;obtain⟨ι,S,ρ,ds,rep,re,r,c⟩:=h;cases ds with
 |nil=>exact(ag c).elim
 |cons d ds=>
  obtain⟨v,ws,rfl,R,U⟩:=r.cons_inv;refine⟨v,ws,rfl,ι,S,ρ,d,rep,re,R,ak (ai c) λZ W S1 L e1 rep1 N P Y=>?_⟩;exact⟨W,S1,Z,ds,rep1,Y,U.later rep e1,N⟩
def fB(n:Nat)(gs:List D->aI->M aI):nE:=λd ρ=>match d with
 | .tup ds=>if ds.length=n then gs ds ρ else M.fail
 |_=>M.fail
theorem ja{es:List Expr}{k:Nat}{n:Nat}{Y:List D->aI->M aI}(T:X.calm=c_)(h:LG X E es Y)(R:(pb es X.env).length=n:=by rfl)(Z:(pb es X.env).findIdx? (·.1)=none:=by rfl):
  SG X E (.Tuple es k pos) (fB n Y):=by
 refine PG.imp (Hs T h R Z) λv σ H Q q=>?_;obtain⟨ι,S,ρ,d,rep,re,r,c⟩:=q;cases d with
 |tup ds=>
  obtain⟨a,vs,rfl,U,W⟩:=r.tup_inv;dsimp only[fB]at c;split at c
  ·next hl=>exact⟨a,vs,rfl,lu.of U,by rw[<-W.length];exact hl,ι,S,ρ,ds,rep,re,W,c⟩
  ·exact(ag c).elim
 |_=>exact(ag c).elim
theorem kJ(Q:SE X E e me)(Y:SG X E tg g)(hs:RA [tg] e pos.line X.env=aw false:=by rfl)(P:RC [tg] e X.env=aw none:=by rfl)
  (W:(pb [tg] X.env).map (·.2)=[RW tg X.env]:=by rfl):SS X E (.Assign [tg] e pos) (λρ=>do let d<-me ρ;let ρ'<-g d ρ;aw (.nx ρ')):=by
 refine PS.imp (Hv Q Y hs P W) λT σ H h=>?_;obtain⟨ι,S,ρ,rep,re,c⟩:=h;refine⟨ι,S,ρ,rep,re,ak (ai c) λd Z S1 N e1 rep1 O v r=>?_⟩;exact⟨Z,S1,ρ,d,rep1,re.later rep e1,r,ak (ai O) λρ' U K L e2 rep2 R=>ah R .refl rep2⟩
theorem aZ(i:Nat)(Z:X.N.Nodup)(U:SE X E e me)(W:X.N[i]? =ar x:=by rfl)(Y:Loc X.env.scope x:=by first|exact SC rfl|exact Si rfl)(hs:l_ e (ar (.Name x pos')) pos.line X.env=aw false:=by rfl)
  (Q:X.fn x=c_\/X.env.scope.names.lookup x=ar .local:=by first|exact .inl rfl|exact .inr rfl|assumption):SS X E (.Assign [.Name x pos'] e pos) (λρ=>do let d<-me ρ;aw (.nx (ρ.set i (ar d)))):=by
 refine PS.imp (Bj Z W Y U hs Q) λT σ H h=>?_;obtain⟨ι,S,ρ,rep,re,c⟩:=h;refine⟨ι,S,ρ,rep,re,ak (ai c) λd R S1 O e1 rep1 P v r=>?_⟩;exact ah P .refl rep1 _ ((re.later rep e1).set r i)
theorem BG(i j:Nat){kt k2 pt2}(R:X.calm=c_)(U:X.N.Nodup)(F:SA X E [a,b] ms)(O:X.N[i]? =ar x:=by rfl)(B:X.N[j]? =ar y:=by rfl)(Y:i≠j:=by decide)
  (I:X.env.scope.names.lookup x=ar .local:=by rfl) (G:X.env.scope.names.lookup y=ar .local:=by rfl)
  (L:RC [.Tuple [.Name x px,.Name y py] kt pt] (.Tuple [a,b] k2 pt2) X.env=aw (ar [x,y]):=by rfl)
  (hs:RA [.Tuple [.Name x px,.Name y py] kt pt] (.Tuple [a,b] k2 pt2) pos.line X.env=aw false:=by rfl):
  SS X E (.Assign [.Tuple [.Name x px,.Name y py] kt pt] (.Tuple [a,b] k2 pt2) pos) (λρ=>do let ds<-ms ρ;match ds with|[d1,d2]=>aw (.nx ((ρ.set i (ar d1)).set j (ar d2)))|_=>M.fail):=by
 refine PS.imp (Hw R U O B Y I G F L hs) λT σ H h=>?_;obtain⟨ι,S,ρ,rep,re,c⟩:=h;refine⟨ι,S,ρ,rep,re,ak (ai c) λds K S1 A e1 rep1 Z vs r=>?_⟩
 match ds,r,Z with
 |[d1,d2],r,Z=>
  obtain⟨v1,ws,rfl,J,W⟩:=r.cons_inv;obtain⟨v2,Q,rfl,C,P⟩:=W.cons_inv;cases P.nil_inv;exact⟨v1,v2,rfl,ah Z .refl rep1 _ (((re.later rep e1).set J i).set C j)⟩
 |[],r,Z=>exact(ag Z).elim
 |[d],r,Z=>exact(ag Z).elim
 |d1::d2::d3::r',r,Z=>exact(ag Z).elim
def Mx(K:dt)(E:XD)(f:D->D->D->M Unit)(r:Ew):Prop:=
 ∀ ι S H d1 d2 d3 v1 v2 v3 Q,Rep K ι H S->RelD K ι H d1 v1->RelD K ι H d2 v2->RelD K ι H d3 v3->cont K E (f d1 d2 d3) ι S H (λ_ _ _ H'=>Q H')->r v1 v2 v3 H Q
def jE:D->D->D->M Unit:=λo i v=>match o,i with
 | .lst k,.int j=>do
  let xs<-getL k
  match wV xs.length j with
  |some at'=>do let _<-kG k (xs.set at' v);aw ()
  |none=>M.fail
 |_,_=>M.fail
inductive Chk where
 |none|some (k:Nat)|two (k j:Nat) (xs ys:List D)
structure Iter where
 items:List D
 chk:Chk
def Iter.okS(it:Iter)(S:aB):Prop:=match it.chk with
 | .none=>True
 | .some k=>S[k]? = .some it.items
 | .two k j xs ys=>S[k]? = .some xs/\S[j]? = .some ys
open Classical in
def ku(it:Iter):M Unit:=λS=>if it.okS S then ar (.ok (),S)else none
def il(K:dt)(it:Iter)(J:It)(ι:List b_)(H:Hp):Prop:=
 ∀ ι2 H2 S2,ExtN ι H ι2 H2->Rep K ι2 H2 S2->it.okS S2->∀i,(∀d,it.items[i]? =ar d->J.go i H2/\∀x H3,J.yld i H2 x H3->Ext ι2 H2 ι2 H3/\Rep K ι2 H3 S2/\RelD K ι2 H3 d x)/\(it.items.length<=i->J.stop i H2)
def MV(K:dt)(E:XD)(mi:aI->M Iter):TI:=λσ H R=>∃ ι S ρ,Rep K ι H S/\RelE K ι H ρ σ/\cont K E (mi ρ) ι S H (λit ι' _ H'=>∀J,il K it J ι' H'->R J H')
def SI(X:Cx)(E:XD)(tg iter:Expr)(mi:aI->M Iter):Prop:=PI X tg iter (MV X.K E mi)
def fc(it:Iter)(g:nE)(b:du):List D->aI->M Out
 |[],ρ=>do ku it;aw (.nx ρ)
 |d::ds,ρ=>do
  ku it
  let ρ1<-g d ρ;let o<-b ρ1
  match o with
  | .nx ρ'=>fc it g b ds ρ'
  | .ct ρ'=>fc it g b ds ρ'
  | .bk ρ'=>aw (.nx ρ')
  | .ret r=>aw (.ret r)
theorem lL{K:dt}{ι:List b_}{S:aB}{H:Hp}{Y:Type}{it:Iter}{f:Unit->M Y}{Q:Y->List b_->aB->Hp->Prop}(h:cont K E (ku it>>=f) ι S H Q)(Z:Rep K ι H S):it.okS S/\cont K E (f ()) ι S H Q:=by
 obtain⟨r,U,e,k⟩:=ai h;unfold ku at e;split at e
 ·next ho=>cases e;exact⟨ho,k ι H .refl Z⟩
 ·cases e
theorem kK(hp:R5 (eK X.prog X.w) X.A X.env X.xe)(f:X.calm=c_)(a:SI X E tg iter mi)(hg:SG X E tg g)(hb:vh X E body b)
  (hs:∀x,n7 iter X.env x=aw x:=by intro _;rfl):SS X E (.For tg iter body [] pos) (λρ=>do let it<-mi ρ;fc it g b it.items ρ):=by
 refine PS.imp (Hz hp f a hg hb hs) λT σ H h=>?_;obtain⟨ι,S,ρ,rep,re,c⟩:=h;refine⟨ι,S,ρ,rep,re,ak (ai c) λit U S1 C e1 rep1 c1 J p=>?_⟩;refine⟨λi n Q W=>∃ ι2 S2 ρ2,n=it.items.length - i/\i<=it.items.length/\Ext U C ι2 W/\Rep X.K ι2 W S2/\RelE X.K ι2 W ρ2 Q/\cont X.K E (fc it g b (it.items.drop i) ρ2) ι2 S2 W (HU X.K T),⟨_,U,S1,ρ,rfl,NN _,.refl,rep1,re.later rep e1,c1⟩,?_⟩;rintro i n Q W ⟨ι2,S2,ρ2,hn,hi',e2,rep2,re2,c2⟩;by_cases hlt:i<it.items.length
 ·have hd:it.items.drop i=it.items[i]::it.items.drop (i+1):=QU hlt;rw[hd]at c2;have N:cont X.K E (do ku it;let ρ1<-g it.items[i] ρ2;let o<-b ρ1;match o with| .nx ρ'=>fc it g b (it.items.drop (i+1)) ρ'| .ct ρ'=>fc it g b (it.items.drop (i+1)) ρ'| .bk ρ'=>aw (.nx ρ')| .ret r=>aw (.ret r)) ι2 S2 W (HU X.K T):=c2;obtain⟨ok,y⟩:=lL N rep2;obtain⟨u,b2⟩:=p ι2 W S2 e2.n rep2 ok i;obtain⟨go,yl⟩:=u it.items[i] (Nw hlt);refine .inr ⟨go,λR Y=>∃ ι3 S3 ρ3,Ext U C ι3 Y/\Rep X.K ι3 Y S3/\RelE X.K ι3 Y ρ3 R/\cont X.K E (fc it g b (it.items.drop (i+1)) ρ3) ι3 S3 Y (HU X.K T),?_,λx k hy=>?_⟩
  ·rintro R Y ⟨ι3,S3,ρ3,L,rep3,re3,z⟩;exact⟨_,by omega,ι3,S3,ρ3,rfl,hlt,L,rep3,re3,z⟩
  ·obtain⟨L,rep3,j⟩:=yl x k hy;refine⟨ι2,S2,ρ2,it.items[i],rep3,re2.later rep2 L,j,ak (ai (gC y L)) λB s S4 H4 e4 I z a9 v=>?_⟩;refine⟨s,S4,B,I,v,ak (ai z) λo O l H5 e5 Z F=>?_⟩;have G:Ext U C O H5:=e2.trans (L.trans (e4.trans e5));cases o with
   |nx ρ'=>exact λq P=>⟨O,l,ρ',G,Z,P,F⟩
   |ct ρ'=>exact λq P=>⟨O,l,ρ',G,Z,P,F⟩
   |bk ρ'=>exact ah F .refl Z
   |ret d=>exact ah F .refl Z
 ·have hd:it.items.drop i=[]:=List.drop_eq_nil_of_le (by omega);rw[hd]at c2;have N:cont X.K E (do ku it;aw (.nx ρ2)) ι2 S2 W (HU X.K T):=c2;obtain⟨ok,y⟩:=lL N rep2;exact .inl ⟨(p ι2 W S2 e2.n rep2 ok i).2 (by omega),ah y .refl rep2 Q re2⟩
def jF(t:aI->M Bool)(b:du):Nat->aI->M Out
 |0,_=>M.fail
 | k+1,ρ=>do
  let c<-t ρ
  if c=c_ then do
   let o<-b ρ
   match o with
   | .nx ρ'=>jF t b k ρ'
   | .ct ρ'=>jF t b k ρ'
   | .bk ρ'=>aw (.nx ρ')
   | .ret r=>aw (.ret r)
  else aw (.nx ρ)
theorem BH(k:Nat)(B:R5 (eK X.prog X.w) X.A X.env X.xe)(C:SB X E e t)(F:vh X E body b):SS X E (.While e body [] pos) (λρ=>jF t b k ρ):=by
 refine PS.imp (Bk B C F) λT σ H h=>?_;obtain⟨ι,S,ρ,rep,re,c⟩:=h;refine⟨λn U P=>∃ ι2 S2 ρ2,Rep X.K ι2 P S2/\RelE X.K ι2 P ρ2 U/\cont X.K E (jF t b n ρ2) ι2 S2 P (HU X.K T),⟨k,ι,S,ρ,rep,re,c⟩,?_⟩;rintro n U P ⟨ι2,S2,ρ2,rep2,re2,c2⟩;cases n with
 |zero=>exact(ag c2).elim
 | succ n=>
  refine⟨ι2,S2,ρ2,rep2,re2,ak (ai c2) λk L z y I rep3 G=>?_⟩;cases k with
  |false=>exact ah G .refl rep3 U (re2.later rep2 I)
  |true=>
   refine⟨λW Y=>∃ ι2 S2 ρ2,Rep X.K ι2 Y S2/\RelE X.K ι2 Y ρ2 W/\cont X.K E (jF t b n ρ2) ι2 S2 Y (HU X.K T),λW Y h=>⟨n,Qp _,h⟩,?_⟩;refine⟨L,z,ρ2,rep3,re2.later rep2 I,ak (ai G) λo Q J x v Z O=>?_⟩;cases o with
   |nx ρ'=>exact λN R=>⟨Q,J,ρ',Z,R,O⟩
   |ct ρ'=>exact λN R=>⟨Q,J,ρ',Z,R,O⟩
   |bk ρ'=>exact ah O .refl Z
   |ret d=>exact ah O .refl Z
end
def gc(H:Hp)(p:b_):Hp:=λa=>if a=p then none else H a
theorem hide_ne{H:Hp}(h:a≠p):gc H p a=H a:=if_neg h
theorem lM:gc H p p=none:=if_pos rfl
theorem cK{H:Hp}(h:gc H p a=ar o):a≠p/\H a=ar o:=by
 by_cases e:a=p
 ·rw[e,lM]at h;cases h
 ·rw[hide_ne e]at h;exact⟨e,h⟩
theorem BI{H:Hp}(h:H p=ar o):upd (gc H p) p o=H:=by
 funext a;by_cases e:a=p
 ·rw[e,bg,h]
 ·rw[aM e,hide_ne e]
theorem jG:gc (upd H p o) p=gc H p:=by
 funext a;by_cases e:a=p
 ·rw[e,lM,lM]
 ·rw[hide_ne e,hide_ne e,aM e]
theorem jb{H:Hp}(h:H p=none):gc H p=H:=by
 funext a;by_cases e:a=p
 ·rw[e,lM,h]
 ·rw[hide_ne e]
section
variable {K:dt}{ι ι':List b_}{H H':Hp}{S:aB}{p:b_}
mutual
theorem RelD.hide(Z:H p=ar (.lst ws)):∀{d:D} {v:V},RelD K ι H d v->RelD K ι (gc H p) d v
 |_,_,.non=>.non
 |_,_,.bl b=>.bl b
 |_,_,.int i=>.int i
 |_,_,.str x=>.str x
 |_,_,.tup h hs=>.tup (by rw[hide_ne (λz=>by rw[z,Z]at h;cases h)];exact h) (RelDs.hide Z hs)
 |_,_,.lst h=>.lst h
 |_,_,.ro h hs=>.ro (h.imp (λ⟨o,h⟩=>⟨o,by rw[hide_ne (λz=>by rw[z,Z]at h;cases h)];exact h⟩) λz=>z) (RelDs.hide Z hs)
 |_,_,.emp h=>.emp (by rw[hide_ne (λz=>by rw[z,Z]at h;cases h)];exact h)
 |_,_,.fn h hs=>.fn (by rw[hide_ne (λz=>by rw[z,Z]at h;cases h)];exact h) (RelDs.hide Z hs)
 |_,_,.exc n h=>.exc n (by rw[hide_ne (λz=>by rw[z,Z]at h;cases h)];exact h)
 |_,_,.excF n h h2 hn hs=>.excF n (by rw[hide_ne (λz=>by rw[z,Z]at h;cases h)];exact h) (by rw[hide_ne (λz=>by rw[z,Z]at h2;cases h2)];exact h2) hn (RelDs.hide Z hs)
 |_,_,.fz h hs=>.fz (by rw[hide_ne (λz=>by rw[z,Z]at h;cases h)];exact h) (RelDs.hide Z hs)
theorem RelDs.hide(Z:H p=ar (.lst ws)):∀{ds:List D} {vs:List V},RelDs K ι H ds vs->RelDs K ι (gc H p) ds vs
 |_,_,.nil=>.nil
 |_,_,.cons h hs=>.cons (RelD.hide Z h) (RelDs.hide Z hs)
end
mutual
theorem RelD.unhide:∀{d:D} {v:V},RelD K ι (gc H p) d v->RelD K ι H d v
 |_,_,.non=>.non
 |_,_,.bl b=>.bl b
 |_,_,.int i=>.int i
 |_,_,.str x=>.str x
 |_,_,.tup h hs=>.tup (cK h).2 (RelDs.unhide hs)
 |_,_,.lst h=>.lst h
 |_,_,.ro h hs=>.ro (h.imp (λ⟨o,h⟩=>⟨o,(cK h).2⟩) λz=>z) (RelDs.unhide hs)
 |_,_,.emp h=>.emp (cK h).2
 |_,_,.fn h hs=>.fn (cK h).2 (RelDs.unhide hs)
 |_,_,.exc n h=>.exc n (cK h).2
 |_,_,.excF n h h2 hn hs=>.excF n (cK h).2 (cK h2).2 hn (RelDs.unhide hs)
 |_,_,.fz h hs=>.fz (cK h).2 (RelDs.unhide hs)
theorem RelDs.unhide:∀{ds:List D} {vs:List V},RelDs K ι (gc H p) ds vs->RelDs K ι H ds vs
 |_,_,.nil=>.nil
 |_,_,.cons h hs=>.cons (RelD.unhide h) (RelDs.unhide hs)
end
theorem RelE.hide(Z:H p=ar (.lst ws)):∀{ρ:aI} {σ:St},RelE K ι H ρ σ->RelE K ι (gc H p) ρ σ
 |_,_,.nil=>.nil
 |_,_,.cons h t=>.cons (λd z=>let ⟨v,e1,e2⟩:=h d z;⟨v,e1,e2.hide Z⟩) (RelE.hide Z t)
theorem RelE.unhide:∀{ρ:aI} {σ:St},RelE K ι (gc H p) ρ σ->RelE K ι H ρ σ
 |_,_,.nil=>.nil
 |_,_,.cons h t=>.cons (λd z=>let ⟨v,e1,e2⟩:=h d z;⟨v,e1,e2.unhide⟩) (RelE.unhide t)
theorem Rep.hide(Z:H p=ar (.lst ws))(Y:p∉ι)(r:Rep K ι H S):Rep K ι (gc H p) S:=
 ⟨r.nd,r.len,λk a xs e1 e2=>let ⟨vs,h1,h2⟩:=r.get k a xs e1 e2;⟨vs,by rw[hide_ne (λz=>Y (by rw[<-z];exact NU e1))];exact h1,h2.hide Z⟩,r.tab.mono λb o h n=>by rw[hide_ne (λz=>by subst z;rw[h]at Z;exact n ws (NW Z))];exact h⟩
theorem Rep.unhide(r:Rep K ι (gc H p) S):Rep K ι H S:=
 ⟨r.nd,r.len,λk a xs e1 e2=>let ⟨vs,h1,h2⟩:=r.get k a xs e1 e2;⟨vs,(cK h1).2,h2.unhide⟩,r.tab.mono λb o h _=>(cK h).2⟩
theorem Ext.hide(e:Ext ι H ι' H'):Ext ι (gc H p) ι' (gc H' p):=
 ⟨e.ids,λa o h n t=>by obtain⟨Z,U⟩:=cK h;obtain⟨Y,X⟩:=e.oth a o U n t;exact⟨by rw[hide_ne Z];exact Y,X⟩⟩
theorem Ext.unhide(e:Ext ι H ι' (gc H' p)):Ext ι H ι' H':=
 ⟨e.ids,λa o h n t=>by obtain⟨Z,Y⟩:=e.oth a o h n t;exact⟨(cK Z).2,Y⟩⟩
theorem mQ{E:XD}{Y:Type}{c:M Y}{ws:List V}{Q:Y->List b_->aB->Hp->Prop}(h:cont K fH c ι S (gc H p) Q)(T:H p=ar (.lst ws))(R:p∉ι):
  cont K E c ι S H (λa ι' Z H'=>H' p=ar (.lst ws)/\p∉ι'/\Q a ι' Z (gc H' p)):=by
 obtain⟨r,Z,e,k⟩:=h;refine⟨r,Z,e,λι' H' x rep=>?_⟩;obtain⟨X,U⟩:=x.oth p _ T R (by intro _ z;cases z);have:=k ι' (gc H' p) x.hide (rep.hide X U);cases r with
 |ok a=>exact⟨X,U,this⟩
 |ex y=>exact this.elim
end
def ky(js:List (Option Nat))(ρ:aI):aI:=js.map λo=>o.bind λj=>(ρ[j]?).join
theorem RelE.blk{K:dt}{ι:List b_}{H:Hp}{ρ:aI}{Y:St}(X:RelE K ι H ρ Y):∀js:List (Option Nat),RelE K ι H (ky js ρ) (rp js Y)
 |[]=>.nil
 |none::js=>.cons (λd z=>by cases z) (RelE.blk X js)
 | some j::js=>.cons (λd z=>by
   have Z:(ρ[j]?).join=ar d:=z;have:ρ[j]? =ar (ar d):=by
    cases q:ρ[j]? with
    |none=>rw[q]at Z;cases Z
    |some o=>rw[q]at Z;exact Of ar Z
   obtain⟨v,e1,e2⟩:=X.get this;refine⟨v,?_,e2⟩;show(Y[j]?).join=ar v;rw[e1];rfl) (RelE.blk X js)
def cy(it:Iter)(g:nE)(t:aI->M Bool)(m:TM):List D->aI->M (List D)
 |[],ρ=>do ku it;aw []
 | d::ds,ρ=>do
  ku it
  let ρ1<-g d ρ;let b<-t ρ1
  if b=c_ then do
   let y<-m ρ1;let ys<-cy it g t m ds ρ1
   aw (y::ys)
  else cy it g t m ds ρ1
def fN(it:Iter)(g:nE)(t:aI->M Bool)(m:TM)(ρ:aI):M (List D):=if it.items.length<=lim then cy it g t m it.items ρ else M.fail
def LH(X:Cx)(E:XD)(ifs:List Expr)(t:aI->M Bool):Prop:=JQ X ifs (GC X.K E t)
theorem gk:LH X E [] (λ_=>aw c_):=λpins s σ H Q I h=>ER pins s σ H Q I (by obtain⟨ι,S,ρ,rep,re,c⟩:=h;exact ah c .refl rep)
theorem oy(h:SB X E c t):LH X E [c] t:=ES h
section
variable {X:Cx}{scope:Scope}{Nc:List Str}{js:List (Option Nat)}{elt tg iter:Expr}{ifs:List Expr}{pos:Pos}{mi:aI->M Iter}{g:nE}{t:aI->M Bool}{m:TM}
theorem gx{Z Y W:Type}(c:M Z)(f:Z->M Y)(h:Y->M W):((c>>=f)>>=h)=(c>>=λa=>f a>>=h):=by
 funext S;show M.bnd (M.bnd c f) h S=M.bnd c (λa=>M.bnd (f a) h) S;unfold M.bnd;cases c S with
 |none=>rfl
 |some r=>
  obtain⟨r,U⟩:=r;cases r<;>rfl
theorem aj{Z Y:Type}(a:Z)(f:Z->M Y):(aw a>>=f)=f a:=rfl
theorem EY{Z Y:Type}{c:Prop} [Decidable c](x y:M Z)(f:Z->M Y):((if c then x else y)>>=f)=if c then x>>=f else y>>=f:=by split<;>rfl
abbrev Kv(js:List (Option Nat))(g:TG)(tt:TT)(te:TE)(σ:St)(Q:VK):It->Hp->Prop:=λJ H1=>∀p,H1 p=none->
 ∃W:Nat->Nat->St->Hp->Prop,(∃m,W 0 m (rp js σ) (upd H1 p (.lst [])))/\∀i m σc Hc,W i m σc Hc->
  (J.stop i Hc/\Q (.ref p) Hc)\/(J.go i Hc/\∃N:St->Hp->Prop,(∀ σ' H',N σ' H'->∃m',m'<m/\W (i+1) m' σ' H')/\∀x H',J.yld i Hc x H'->g x σc H' λσ2 H2=>tt σ2 H2 λb H3=>
   if b=c_ then te σ2 H3 λy H4=>∃xs,H4 p=ar (.lst xs)/\xs.length<sizeLine/\N σ2 (upd H4 p (.lst (xs++[y])))else N σ2 H3)
theorem BJ{Q:VK}{q:St}{H:Hp}{ι:List b_}{S:aB}{ρ:aI}(s:Rep X.K ι H S)(re:RelE X.K ι H ρ q)(c:cont X.K fH (do let it<-mi ρ;let ys<-fN it g t m (ky js ρ);bp ys) ι S H (lg X.K Q)):
  cont X.K fH (mi ρ) ι S H (λit Y _ T=>∀J,il X.K it J Y T->Kv js (Ks X.K fH g) (GC X.K fH t) (tM X.K fH m) q Q J T):=by
 refine ak (ai c) λit Y S1 T e1 rep1 d J hJ p w=>?_;have l:it.items.length<=lim/\cont X.K fH (cy it g t m it.items (ky js ρ)>>=λys=>bp ys) Y S1 T (lg X.K Q):=by
  have U:cont X.K fH ((if it.items.length<=lim then cy it g t m it.items (ky js ρ)else M.fail)>>=λys=>bp ys) Y S1 T (lg X.K Q):=d;by_cases h:it.items.length<=lim
  ·rw[if_pos h]at U;exact⟨h,U⟩
  ·rw[if_neg h]at U;exact(ag (ai U)).elim
 obtain⟨hlen,d⟩:=l;have r:RelE X.K Y T (ky js ρ) (rp js q):=(re.later s e1).blk js;refine⟨λi n A W=>∃ ι2 S2 ρ2 xs vs,n=it.items.length - i/\i<=it.items.length/\Ext Y T ι2 (gc W p)/\Rep X.K ι2 (gc W p) S2/\RelE X.K ι2 (gc W p) ρ2 A/\W p=ar (.lst vs)/\p∉ι2/\RelDs X.K ι2 (gc W p) xs vs/\xs.length<=i/\
  cont X.K fH (cy it g t m (it.items.drop i) ρ2>>=λys=>bp (xs++ys)) ι2 S2 (gc W p) (lg X.K Q),⟨_,Y,S1,ky js ρ,[],[],rfl,NN _,?_,?_,?_,bg,rep1.free w,.nil,NN _,?_⟩,?_⟩
 ·rw[jG,jb w];exact .refl
 ·rw[jG,jb w];exact rep1
 ·rw[jG,jb w];exact r
 ·rw[jG,jb w];exact d
 rintro i n A W ⟨ι2,S2,ρ2,xs,vs,hn,hi',e2,rep2,re2,hpc,hpn,rx,hlim,c2⟩;by_cases hlt:i<it.items.length
 ·have hd:it.items.drop i=it.items[i]::it.items.drop (i+1):=QU hlt;rw[hd]at c2;have I:cont X.K fH (ku it>>=λ_=>g it.items[i] ρ2>>=λZ=>t Z>>=λb=>if b=c_ then m Z>>=λy=>cy it g t m (it.items.drop (i+1)) Z>>=λys=>bp (xs++y::ys)else cy it g t m (it.items.drop (i+1)) Z>>=λys=>bp (xs++ys)) ι2 S2 (gc W p) (lg X.K Q):=by
   have:(cy it g t m (it.items[i]::it.items.drop (i+1)) ρ2>>=λys=>bp (xs++ys))=(ku it>>=λ_=>g it.items[i] ρ2>>=λZ=>t Z>>=λb=>if b=c_ then m Z>>=λy=>cy it g t m (it.items.drop (i+1)) Z>>=λys=>bp (xs++y::ys)else cy it g t m (it.items.drop (i+1)) Z>>=λys=>bp (xs++ys)):=by show((ku it>>=λ_=>g it.items[i] ρ2>>=λZ=>t Z>>=λb=>if b=c_ then m Z>>=λy=>cy it g t m (it.items.drop (i+1)) Z>>=λys=>aw (y::ys)else cy it g t m (it.items.drop (i+1)) Z)>>=λys=>bp (xs++ys))=_;simp only[gx,EY,aj]
   rw[<-this];exact c2
  obtain⟨ok,u⟩:=lL I rep2;obtain⟨j,a9⟩:=hJ ι2 W S2 e2.unhide.n rep2.unhide ok i;obtain⟨go,yl⟩:=j it.items[i] (Nw hlt);refine .inr ⟨go,λF R=>∃ ι3 S3 ρ3 xs3 vs3,Ext Y T ι3 (gc R p)/\Rep X.K ι3 (gc R p) S3/\RelE X.K ι3 (gc R p) ρ3 F/\R p=ar (.lst vs3)/\p∉ι3/\RelDs X.K ι3 (gc R p) xs3 vs3/\xs3.length<=i+1/\
   cont X.K fH (cy it g t m (it.items.drop (i+1)) ρ3>>=λys=>bp (xs3++ys)) ι3 S3 (gc R p) (lg X.K Q),?_,λx a hy=>?_⟩
  ·rintro F R ⟨ι3,S3,ρ3,xs3,vs3,h1,h2,h3,h4,h5,h6,h7,h8⟩;exact⟨_,by omega,ι3,S3,ρ3,xs3,vs3,rfl,hlt,h1,h2,h3,h4,h5,h6,h7,h8⟩
  ·obtain⟨o,rep3,rd⟩:=yl x a hy;obtain⟨e,_⟩:=o.oth p _ hpc hpn (by intro _ z;cases z);have v:Ext ι2 (gc W p) ι2 (gc a p):=o.hide;have c4:=ai (gC u v);refine⟨ι2,S2,ρ2,it.items[i],rep3,re2.unhide.later rep2.unhide o,rd,ak (mQ (E:=fH) c4 e hpn) λρ4 ι4 S4 H4 e4 rep4 ⟨hp4,hn4,c5⟩ σ4 re4=>?_⟩;have f:Rep X.K ι4 (gc H4 p) S4:=rep4.hide hp4 hn4;have k:Ext ι2 (gc W p) ι4 (gc H4 p):=v.trans e4.hide;refine⟨ι4,S4,ρ4,rep4,re4,ak (mQ (E:=fH) (ai c5) hp4 hn4) λb ι5 S5 H5 e5 rep5 ⟨hp5,hn5,c6⟩=>?_⟩;have L:Rep X.K ι5 (gc H5 p) S5:=rep5.hide hp5 hn5;have G:Ext ι2 (gc W p) ι5 (gc H5 p):=k.trans e5.hide;have P:RelE X.K ι5 H5 ρ4 σ4:=re4.later rep4 e5;cases b with
   |false=>
    have N:cont X.K fH (cy it g t m (it.items.drop (i+1)) ρ4>>=λys=>bp (xs++ys)) ι5 S5 (gc H5 p) (lg X.K Q):=c6;exact⟨ι5,S5,ρ4,xs,vs,e2.trans G,L,P.hide hp5,hp5,hn5,rx.later rep2 G,by omega,N⟩
   |true=>
    have N:cont X.K fH (m ρ4>>=λy=>cy it g t m (it.items.drop (i+1)) ρ4>>=λys=>bp (xs++y::ys)) ι5 S5 (gc H5 p) (lg X.K Q):=c6;refine⟨ι5,S5,ρ4,rep5,P,ak (mQ (E:=fH) (ai N) hp5 hn5) λy ι6 S6 H6 e6 rep6 ⟨hp6,hn6,c7⟩ yv ry=>?_⟩;have B:Ext ι2 (gc W p) ι6 (gc H6 p):=G.trans e6.hide;have O:Rep X.K ι6 (gc H6 p) S6:=rep6.hide hp6 hn6;have C:=rx.later rep2 B;have hl:vs.length<sizeLine:=by rw[<-C.length];exact QP (by omega) HV
    refine⟨vs,hp6,hl,ι6,S6,ρ4,xs++[y],vs++[yv],?_⟩;rw[jG];refine⟨e2.trans B,O,(P.later rep5 e6).hide hp6,bg,hn6,C.append (.cons (ry.hide hp6) .nil),by simp;omega,by simpa using c7⟩
 ·have hd:it.items.drop i=[]:=List.drop_eq_nil_of_le (by omega);rw[hd]at c2;have I:cont X.K fH (ku it>>=λ_=>bp (xs++[])) ι2 S2 (gc W p) (lg X.K Q):=by
   have:(cy it g t m [] ρ2>>=λys=>bp (xs++ys))=(ku it>>=λ_=>bp (xs++[])):=by show((ku it>>=λ_=>aw [])>>=λys=>bp (xs++ys))=_;simp only[gx,aj]
   rw[<-this];exact c2
  obtain⟨ok,u⟩:=lL I rep2;rw[Om]at u;refine .inl ⟨(hJ ι2 W S2 e2.unhide.n rep2.unhide ok i).2 (by omega),?_⟩;have:=(bt u rep2 rx).2 p lM;rw[BI hpc]at this;exact this
theorem vi(h:tM X.K fH (λρ=>do let it<-mi ρ;let ys<-fN it g t m (ky js ρ);bp ys) σ H Q):
  ym (MV X.K fH mi) js (Ks X.K fH g) (GC X.K fH t) (tM X.K fH m) σ H Q:=
 let ⟨ι,S,ρ,rep,re,c⟩:=h
 ⟨ι,S,ρ,rep,re,BJ rep re c⟩
theorem fi(c:CompScope X scope Nc js)(Y:X.calm=c_)(W:SI X fH tg iter mi)
  (Z:∀C ex s H,SG (bL X scope Nc C ex s H) fH tg g/\LH (bL X scope Nc C ex s H) fH ifs t/\SE (bL X scope Nc C ex s H) fH elt m)
  (hs:∀x,n7 iter X.env x=aw x:=by intro _;rfl):SE X fH (.ListComp elt [⟨tg,iter,ifs,0⟩] scope pos) (λρ=>do let it<-mi ρ;let ys<-fN it g t m (ky js ρ);bp ys):=
 PE.imp (ET (g:=Ks X.K fH g) (tt:=GC X.K fH t) (te:=tM X.K fH m) c Y W Z hs) λ_ _ _ q=>vi q
theorem pk(i:Nat)(R:X.N.Nodup)(c:CompScope X scope Nc js)(P:X.calm=c_)(O:SI X fH tg iter mi)
  (Y:∀C ex s H,SG (bL X scope Nc C ex s H) fH tg g/\LH (bL X scope Nc C ex s H) fH ifs t/\SE (bL X scope Nc C ex s H) fH elt m)
  (Z:X.N[i]? =ar x:=by rfl) (Q:Loc X.env.scope x:=by first|exact SC rfl|exact Si rfl)
  (W:l_ (.ListComp elt [⟨tg,iter,ifs,0⟩] scope cpos) (ar (.Name x pos')) pos.line X.env=aw true:=by rfl)
  (J:X.fn x=c_\/X.env.scope.names.lookup x=ar .local:=by first|exact .inl rfl|exact .inr rfl|assumption)
  (hs:∀x,n7 iter X.env x=aw x:=by intro _;rfl):SS X fH (.Assign [.Name x pos'] (.ListComp elt [⟨tg,iter,ifs,0⟩] scope cpos) pos)
   (λρ=>do let d<-(do let it<-mi ρ;let ys<-fN it g t m (ky js ρ);bp ys);aw (.nx (ρ.set i (ar d)))):=by
 refine PS.imp (xa (g:=Ks X.K fH g) (tt:=GC X.K fH t) (te:=tM X.K fH m) R Z Q c P O Y W J hs) λT σ H h=>?_;obtain⟨ι,S,ρ,rep,re,c⟩:=h;refine vi ⟨ι,S,ρ,rep,re,ak (ai c) λd L S1 I e1 rep1 U v r=>?_⟩;exact ah U .refl rep1 _ ((re.later rep e1).set r i)
end
section
variable {P:eb}{w:er}{K:dt}{mg:Str->Option aC}{base:fg}
def outD:Out->M D
 | .nx _=>aw .non
 | .ret d=>aw d
 |_=>M.fail
def rZ(N n:Nat)(m:du):List D->M D:=λds=>if ds.length=n then do let o<-m (ds.map ar++k_ (N - n) none);outD o else M.fail
end
def rz(f:Int->Int->M D):D->D->M D
 | .int i,.int j=>f i j
 |_,_=>M.fail
theorem fj{K:dt}{E:XD}{g:Int->Int->V}{f:Int->Int->D}(Z:∀ ι H i j,RelD K ι H (f i j) (g i j)):ou K E (rz λi j=>aw (f i j)) (Ej g):=by
 intro ι S H U T v1 v2 Q rep X Y c;cases U<;>cases T<;>first
  |exact(ag c).elim
  |exact⟨_,_,X.int_inv,Y.int_inv,ah c .refl rep _ (Z _ _ _ _)⟩
theorem lN{K:dt}{E:XD}{C:Int->Int->Prop} [∀i j,Decidable (C i j)]{g:Int->Int->V}{f:Int->Int->D}(Y:∀ ι H i j,RelD K ι H (f i j) (g i j)):ou K E (rz λi j=>if C i j then aw (f i j)else M.fail) (rI C g):=by
 intro ι S H T R v1 v2 Q rep U X c;cases T<;>cases R<;>first
  |exact(ag c).elim
  | (next i j=>
    have Z:cont K E (if C i j then aw (f i j)else M.fail) ι S H (lg K Q):=c;by_cases h:C i j
    ·rw[if_pos h]at Z;exact⟨_,_,U.int_inv,X.int_inv,h,ah Z .refl rep _ (Y _ _ _ _)⟩
    ·rw[if_neg h]at Z;exact(ag Z).elim)
def gT:D->D->M D:=rz λi j=>aw (.int (i - j))
instance:∀i j,Decidable (wN i j):=λi j=>inferInstanceAs (Decidable (_\/_))
instance:∀i j,Decidable (zV i j):=λi j=>inferInstanceAs (Decidable (_/\_))
instance:∀i j,Decidable (EC i j):=λi j=>inferInstanceAs (Decidable (_/\_))
def tL:D->D->M D:=rz λi j=>if wN i j then aw (.int (i*j))else M.fail
def lO:D->D->M D:=rz λi j=>if zV i j then aw (.int (i / j))else M.fail
def kL:D->D->M D:=rz λi j=>if 0<j then aw (.int (i % j))else M.fail
def BK:D->D->M D:=rz λi j=>if EC i j then aw (.int (i ^ j.toNat))else M.fail
def bB:D->D->M D
 | .int i,.int j=>aw (.int (i+j))
 | .tup xs,.tup ys=>cW (xs++ys)
 | .lst a,.lst b=>do let xs<-getL a;let ys<-getL b;bp (xs++ys)
 | .lst a,.fz ys=>do let xs<-getL a;bp (xs++ys)
 | .fz xs,.lst b=>do let ys<-getL b;bp (xs++ys)
 | .fz xs,.fz ys=>bp (xs++ys)
 |_,_=>M.fail
def nF:D->D->M D:=rz λi j=>aw (.bl (decide (i<=j)))
def BM:D->D->M D:=rz λi j=>aw (.bl (decide (j<i)))
def My:D->D->M D:=rz λi j=>aw (.bl (decide (j<=i)))
section
variable {X:Cx}{E:XD}{a b e c:Expr}{m n l:TM}{pos:Pos}
theorem kM(Y:SE X E a m)(Z:SE X E b n):SE X E (.BinOp a .Sub b pos) (λρ=>do let x<-m ρ;let y<-n ρ;gT x y):=pj HC (fj λ_ _ _ _=>.int _) Y Z
theorem pq(Y:SE X E a m)(Z:SE X E b n):SE X E (.BinOp a .Mult b pos) (λρ=>do let x<-m ρ;let y<-n ρ;tL x y):=pj HD (lN λ_ _ _ _=>.int _) Y Z
theorem tN(Y:SE X E a m)(Z:SE X E b n):SE X E (.BinOp a .FloorDiv b pos) (λρ=>do let x<-m ρ;let y<-n ρ;lO x y):=pj ED (lN λ_ _ _ _=>.int _) Y Z
theorem jH(Y:SE X E a m)(Z:SE X E b n):SE X E (.BinOp a .Mod b pos) (λρ=>do let x<-m ρ;let y<-n ρ;kL x y):=pj HE (lN (C:=λ_ j=>0<j) λ_ _ _ _=>.int _) Y Z
theorem BN(Y:SE X E a m)(Z:SE X E b n):SE X E (.BinOp a .Pow b pos) (λρ=>do let x<-m ρ;let y<-n ρ;BK x y):=pj HF (lN λ_ _ _ _=>.int _) Y Z
theorem BO:gv X (t_ .Add) (λx y H Q=>∃a b ys,x= .ref a/\y= .ref b/\lu X.K H a []/\lu X.K H b ys/\Q (.ref b) H):=by
 intro pins s σ H x y v u Q I A L h;obtain⟨a,b,ys,rfl,rfl,B,G,q⟩:=h;cases A;cases L;obtain⟨its,C,J,_⟩:=I.tuple B;obtain⟨Z,z,O,_⟩:=I.tuple G;cases C;obtain⟨⟨cls,dd,data,N⟩,P,S,n,hd⟩:=id J;obtain⟨⟨R,U,data2,T⟩,Y,W,F,hd2⟩:=id O;simp only at S hd W hd2;subst S hd W hd2;exact Sl ⟨_,P,rfl⟩ ⟨_,Y,rfl⟩ Ro Se P6 PX (PP _ _)
  (tuple_addW0 a b #[] Z.toArray n F dd U N T (by simp)) ⟨P,Y,⟨.ref b,H,I,rfl,q⟩⟩
theorem Inv.lstR{X:Cx}{Z:List (b_×Obj)}{Y:L2.St}{H:Hp}{s:a_}{l:b_}{xs:List V}(I:L2.Inv X Z Y H s)(W:Rd H l (.lst xs)):xs.length<=sizeLine/\∃(its:List aC) (n:Nat),bj xs its/\xs.length=its.length/\s.heap.get? l=ar {cls:=.type "list",data:=.seq its.toArray n}:=by obtain⟨z,its,n,r,e⟩:=W.ok I.hok;exact⟨z,its,n,r,r.length,e⟩
def Kw:R2:=λx y H Q=>∃l b xs zs,x= .ref l/\y= .ref b/\Rd H l (.lst xs)/\Rd H b (.lst zs)/\xs.length+zs.length<=sizeLine/\∀p,H p=none->Q (.ref p) (upd H p (.lst (xs++zs)))
theorem EZ:gv X (t_ .Add) Kw:=by
 intro pins s σ H x y v u Q I O S h;obtain⟨l,b,xs,zs,rfl,rfl,R,Y,L,q⟩:=h;cases O;cases S;obtain⟨z,its,n,r,K,e⟩:=Inv.lstR I R;obtain⟨J,Z,N,W,T,e2⟩:=Inv.lstR I Y;refine PySem.P.add_list e e2 ?_ (by rw[NG,NG];omega);have U:its.toArray++Z.toArray=(its++Z).toArray:=by simp
 rw[U];exact⟨.ref _,_,I.lnew (t':=s.toks) (r.append W) (by rw[Nr];omega),rfl,q _ I.fresh⟩
theorem cw(F:SE X E a m)(G:SE X E b n):SE X E (.BinOp a .Add b pos) (λρ=>do let x<-m ρ;let y<-n ρ;bB x y):=by
 refine pj (HB.or (EL.or (BO.or EZ))) ?_ F G;intro ι S H C B v1 v2 Q rep O P c;cases C<;>cases B<;>first
  |exact(ag c).elim
  |exact .inl ⟨_,_,O.int_inv,P.int_inv,ah c .refl rep _ (.int _)⟩
  | (next xs ys=>
    obtain⟨p,vs,rfl,W,K⟩:=O.tup_inv;obtain⟨q,ws,rfl,U,L⟩:=P.tup_inv;obtain⟨Y,T⟩:=fG c rep (K.append L);rw[Nr]at Y;cases vs with
    |nil=>
     refine .inr (.inr (.inl ⟨p,q,ws,rfl,rfl,.of W,.of U,?_⟩));exact i7 c rep U (K.append L)
    |cons v vs=>
     refine .inr (.inl ⟨p,q,v::vs,ws,rfl,rfl,.of W,.of U,by simp,Nz Y fF,λz=>?_,λ_=>T⟩);subst z;have:=K.append L;rw[Om]at this;exact i7 c rep W this)
  | (next j k=>
    obtain⟨p,rfl,W⟩:=O.lst_inv;obtain⟨q,rfl,U⟩:=P.lst_inv;obtain⟨ds,vs,_,J,R,I⟩:=br c rep W;obtain⟨es,ws,_,hw,Z,N⟩:=br I rep U;obtain⟨Y,T⟩:=bt N rep (R.append Z);rw[Nr]at Y;exact .inr (.inr (.inr ⟨p,q,vs,ws,rfl,rfl,.inl J,.inl hw,Nz Y fF,T⟩)))
  | (next j ys=>
    obtain⟨p,rfl,W⟩:=O.lst_inv;obtain⟨q,o2,ws,rfl,U,Z⟩:=P.fz_inv;obtain⟨ds,vs,_,J,R,I⟩:=br c rep W;obtain⟨Y,T⟩:=bt I rep (R.append Z);rw[Nr]at Y;exact .inr (.inr (.inr ⟨p,q,vs,ws,rfl,rfl,.inl J,.inr ⟨o2,U⟩,Nz Y fF,T⟩)))
  | (next xs k=>
    obtain⟨p,o1,vs,rfl,W,R⟩:=O.fz_inv;obtain⟨q,rfl,U⟩:=P.lst_inv;obtain⟨es,ws,_,hw,Z,N⟩:=br c rep U;obtain⟨Y,T⟩:=bt N rep (R.append Z);rw[Nr]at Y;exact .inr (.inr (.inr ⟨p,q,vs,ws,rfl,rfl,.inr ⟨o1,W⟩,.inl hw,Nz Y fF,T⟩)))
  | (next xs ys=>
    obtain⟨p,o1,vs,rfl,W,R⟩:=O.fz_inv;obtain⟨q,o2,ws,rfl,U,Z⟩:=P.fz_inv;obtain⟨Y,T⟩:=bt c rep (R.append Z);rw[Nr]at Y;exact .inr (.inr (.inr ⟨p,q,vs,ws,rfl,rfl,.inr ⟨o1,W⟩,.inr ⟨o2,U⟩,Nz Y fF,T⟩)))
theorem BP(Y:SE X E a m)(Z:SE X E b n):SB X E (.Compare a [.Gt] [b] pos) (λρ=>do let z<-(do let x<-m ρ;let y<-n ρ;BM x y);iZ z):=kI Kh (fj λ_ _ _ _=>.bl _) Y Z
theorem Kx(Y:SE X E a m)(Z:SE X E b n):SB X E (.Compare a [.GtE] [b] pos) (λρ=>do let z<-(do let x<-m ρ;let y<-n ρ;My x y);iZ z):=kI Ki (fj λ_ _ _ _=>.bl _) Y Z
def intsOf:List D->Option (List Int)
 |[]=>ar []
 | .int i::r=>(intsOf r).map (i::·)
 |_=>none
theorem gD{K:dt}{ι:List b_}{H:Hp}:∀{ds:List D} {vs:List V} {ns:List Int},RelDs K ι H ds vs->intsOf ds=ar ns->vs=ns.map V.int
 |[],vs,ns,h,e=>by cases e;rw[h.nil_inv];rfl
 | .int i::ds,vs,ns,h,e=>by
  obtain⟨v,ws,rfl,Y,Z⟩:=h.cons_inv;cases q:intsOf ds with
  |none=>simp[intsOf,q]at e
  |some ks=>
   simp[intsOf,q]at e;subst e;rw[Y.int_inv,gD Z q];rfl
 | .non::_,_,_,_,e=>by cases e
 | .bl _::_,_,_,_,e=>by cases e
 | .str _::_,_,_,_,e=>by cases e
 | .tup _::_,_,_,_,e=>by cases e
 | .lst _::_,_,_,_,e=>by cases e
 | .ro _::_,_,_,_,e=>by cases e
 | .fz _::_,_,_,_,e=>by cases e
 | .emp::_,_,_,_,e=>by cases e
def tO:D->D->M D
 | .int i,.int j=>aw (.bl (decide (i<j)))
 | .tup xs,.tup ys=>match intsOf xs,intsOf ys with
  |some ns,ar ms=>aw (.bl (HT.lexLt ns ms))
  |_,_=>M.fail
 |_,_=>M.fail
theorem pv:ou X.K E tO (λx y H Q=>Ej (λi j=>.bl (decide (i<j))) x y H Q\/Km X.K x y H Q):=by
 intro ι S H T R v1 v2 Q rep Y Z c;cases T<;>cases R<;>first
  |exact(ag c).elim
  |exact .inl ⟨_,_,Y.int_inv,Z.int_inv,ah c .refl rep _ (.bl _)⟩
  | (next xs ys=>
    obtain⟨p,vs,rfl,W,P⟩:=Y.tup_inv;obtain⟨q,ws,rfl,O,U⟩:=Z.tup_inv;dsimp only[tO]at c;split at c
    ·next ns ms e1 e2=>
     refine .inr ⟨p,q,ns,ms,rfl,rfl,.of (by rw[<-gD P e1];exact W),.of (by rw[<-gD U e2];exact O),ah c .refl rep _ (.bl _)⟩
    ·exact(ag c).elim)
theorem GG(W:X.A.units<A')(Y:SE X E a m)(Z:SE X E b n):SE X E (.Compare a [.Lt] [b] pos) (λρ=>do let x<-m ρ;let y<-n ρ;tO x y):=tJ (uX.or (oZ W)) pv Y Z
theorem GH(W:X.A.units<A')(Y:SE X E a m)(Z:SE X E b n):SB X E (.Compare a [.Lt] [b] pos) (λρ=>do let z<-(do let x<-m ρ;let y<-n ρ;tO x y);iZ z):=kI (uX.or (oZ W)) pv Y Z
theorem vj(C:ou X.K E f r)(B:ou X.K E g r')
  (h:tM X.K E (λρ=>do let x<-m ρ;let y<-n ρ;let z<-f x y;let k<-iZ z;if k=c_ then do let w<-l ρ;g y w else aw (.bl dr)) σ H Q):wO r r' (tM X.K E m) (tM X.K E n) (tM X.K E l) σ H Q:=by
 obtain⟨ι,S,ρ,rep,re,c⟩:=h;refine⟨ι,S,ρ,rep,re,ak (ai c) λx T S1 j e1 rep1 p v1 v=>?_⟩;refine⟨T,S1,ρ,rep1,re.later rep e1,ak (ai p) λy W G L e2 rep2 J v2 R=>?_⟩;refine C W G L x y v1 v2 _ rep2 (v.later rep1 e2) R (ak (ai J) λz Y s o O rep3 F i N=>?_);obtain⟨k,rfl,rfl,P⟩:=lJ rep3 N F;refine⟨k,rfl,?_⟩;cases k with
 |true=>
  exact⟨Y,s,ρ,rep3,((re.later rep e1).later rep1 e2).later rep2 O,ak (ai P) λw U A u t Z q v4 I=>B U A u y w v2 v4 Q Z ((R.later rep2 O).later rep3 t) I q⟩
 |false=>exact ah P .refl rep3 _ (.bl dr)
theorem BQ(h:gv X (ip op) r)(h':gv X (ip op') r')(S:ou X.K E f r)(Y:ou X.K E g r')(T:SE X E a m)(Z:SE X E b n)(U:SE X E c l)
  (W:RH [op,op'] [b,c]=false:=by with_unfolding_all rfl):
  SE X E (.Compare a [op,op'] [b,c] pos) (λρ=>do let x<-m ρ;let y<-n ρ;let z<-f x y;let k<-iZ z;if k=c_ then do let w<-l ρ;g y w else aw (.bl dr)):=
 PE.imp (Bm h h' T Z U W) λ_ _ _ q=>vj S Y q
theorem pA(h:gv X (ip op) r)(h':gv X (ip op') r')(L:ou X.K E f r)(Y:ou X.K E g r')(O:SE X E a m)(Z:SE X E b n)(R:SE X E c l)
  (U:RH [op,op'] [b,c]=false:=by with_unfolding_all rfl):
  SB X E (.Compare a [op,op'] [b,c] pos) (λρ=>do let v<-(do let x<-m ρ;let y<-n ρ;let z<-f x y;let k<-iZ z;if k=c_ then do let w<-l ρ;g y w else aw (.bl dr));iZ v):=
 PT.imp (Bo h h' O Z R U) λσ H Q q=>by obtain⟨ι,S,ρ,rep,re,c⟩:=q;refine vj L Y (Q:=λx W=>∃k,x= .bl k/\Q k W) ⟨ι,S,ρ,rep,re,ak (ai c) λx N S1 I e1 rep1 J v1 T=>?_⟩;obtain⟨k,rfl,rfl,P⟩:=lK rep1 T J;exact⟨k,rfl,P⟩
def cz:D->D->M D
 | .lst k,.int i=>do
  let xs<-getL k
  match iI xs i with
  |some d=>aw d
  |none=>M.fail
 | .tup xs,.int i=>match iI xs i with
  |some d=>aw d
  |none=>M.fail
 | .ro xs,.int i=>match iI xs i with
  |some d=>aw d
  |none=>M.fail
 | .fz xs,.int i=>match iI xs i with
  |some d=>aw d
  |none=>M.fail
 |_,_=>M.fail
theorem oz{K:dt}{ι:List b_}{H:Hp}{ds:List D}{vs:List V}{i:Int}{d:D}(h:RelDs K ι H ds vs)(e:iI ds i=ar d):∃v,iI vs i=ar v/\RelD K ι H d v:=by
 unfold iI at e⊢;rw[h.length]at e;cases q:wV vs.length i with
 |none=>rw[q]at e;cases e
 |some j=>
  rw[q]at e;exact h.get' e
theorem HW:ou X.K E cz (MS X.K):=by
 intro ι S H R P v1 v2 Q rep U W c;cases R<;>cases P<;>first
  |exact(ag c).elim
  | (next k i=>
    obtain⟨p,rfl,Y⟩:=U.lst_inv;obtain⟨ds,vs,_,O,Z,T⟩:=br c rep Y;cases q:iI ds i with
    |none=>rw[q]at T;exact(ag T).elim
    |some d=>
     rw[q]at T;obtain⟨v,e1,e2⟩:=oz Z q;exact .inl ⟨p,vs,i,v,rfl,W.int_inv,.of O,e1,ah T .refl rep _ e2⟩)
  | (next ds i=>
    obtain⟨p,vs,rfl,Y,Z⟩:=U.tup_inv;dsimp only[cz]at c;cases q:iI ds i with
    |none=>rw[q]at c;exact(ag c).elim
    |some d=>
     rw[q]at c;obtain⟨v,e1,e2⟩:=oz Z q;exact .inr (.inl ⟨p,vs,i,v,rfl,W.int_inv,.of Y,e1,ah c .refl rep _ e2⟩))
  | (next ds i=>
    obtain⟨p,vs,rfl,Y,Z⟩:=U.ro_inv;dsimp only[cz]at c;cases q:iI ds i with
    |none=>rw[q]at c;exact(ag c).elim
    |some d=>
     rw[q]at c;obtain⟨v,e1,e2⟩:=oz Z q;exact .inl ⟨p,vs,i,v,rfl,W.int_inv,Y.sq,e1,ah c .refl rep _ e2⟩)
  | (next ds i=>
    obtain⟨p,o,vs,rfl,Y,Z⟩:=U.fz_inv;dsimp only[cz]at c;cases q:iI ds i with
    |none=>rw[q]at c;exact(ag c).elim
    |some d=>
     rw[q]at c;obtain⟨v,e1,e2⟩:=oz Z q;exact .inl ⟨p,vs,i,v,rfl,W.int_inv,.inl (.inr ⟨o,Y⟩),e1,ah c .refl rep _ e2⟩)
theorem aU(Y:SE X E a m)(Z:SE X E b n)(hs:lB b:=by intro _ _;rfl):SE X E (.Subscript a b pos) (λρ=>do let x<-m ρ;let y<-n ρ;cz x y):=GE HN HW Y Z hs
end
mutual
inductive ReadsV(H:Hp):V->o_->Prop where
 |non:ReadsV H .non .none
 |bl (b:Bool):ReadsV H (.bl b) (.bool b)
 |int (i:Int):ReadsV H (.int i) (.int i)
 |str (x:Str):ReadsV H (.str x) (.str x)
 |lst {a:b_} {vs:List V} {ps:List o_}:Rd H a (.lst vs)->ReadsVs H vs ps->ReadsV H (.ref a) (.list ps)
 |tup {a:b_} {vs:List V} {ps:List o_}:H a=ar (.tup vs)->ReadsVs H vs ps->ReadsV H (.ref a) (.tuple ps)
inductive ReadsVs(H:Hp):List V->List o_->Prop where
 |nil:ReadsVs H [] []
 |cons {v:V} {p:o_} {vs:List V} {ps:List o_}:ReadsV H v p->ReadsVs H vs ps->ReadsVs H (v::vs) (p::ps)
end
mutual
theorem ReadsV.heap(Z:gh P w H h):∀{v:V} {p:o_},ReadsV H v p->∀{u:aC},RelV v u->∃as,Reads h u p as
 |_,_,.non,u,r=>by cases (show u=hY from r);exact⟨_,.none⟩
 |_,_,.bl b,u,r=>by cases (show u=u_ b from r);exact⟨_,.bool b⟩
 |_,_,.int i,u,r=>by obtain⟨t,rfl⟩:=(show ∃t,u=oi i t from r);exact⟨_,.int i t⟩
 |_,_,.str x,u,r=>by obtain⟨t,rfl⟩:=(show ∃t,u=k8 x t from r);exact⟨_,.str x t⟩
 |_,_,@ReadsV.lst _ a vs ps h1 h2,u,r=>by
  cases (show u=ee a from r);obtain⟨_,its,n,Y,e⟩:=(show bh P w H h a (.lst vs)from h1.ok Z);obtain⟨as,q⟩:=ReadsVs.heap Z h2 Y;exact⟨_,.list e rfl rfl (by simpa using q)⟩
 |_,_,@ReadsV.tup _ a vs ps h1 h2,u,r=>by
  cases (show u=ee a from r);obtain⟨_,its,Y,o,e,c,n,d⟩:=(show bh P w H h a (.tup vs)from Z a _ h1);obtain⟨as,q⟩:=ReadsVs.heap Z h2 Y;exact⟨_,.tuple e c d (by simpa using q)⟩
theorem ReadsVs.heap(Z:gh P w H h):∀{vs:List V} {ps:List o_},ReadsVs H vs ps->∀{us:List aC},bj vs us->∃as,ReadsAll h us ps as
 |_,_,.nil,us,r=>by cases r;exact⟨_,.nil⟩
 | _,_,.cons h1 h2,us,r=>by
  cases r with
  |cons r1 r2=>
   obtain⟨as,q⟩:=ReadsV.heap Z h1 r1;obtain⟨bs,Y⟩:=ReadsVs.heap Z h2 r2;exact⟨_,.cons q Y⟩
end
def mapP(f:D->Option o_):List D->Option (List o_)
 |[]=>ar []
 |d::ds=>match f d,mapP f ds with
  |some p,ar ps=>ar (p::ps)
  |_,_=>none
def gm(S:aB):Nat->D->Option o_
 |_,.non=>ar .none
 |_,.bl b=>ar (.bool b)
 |_,.int i=>ar (.int i)
 |_,.str x=>if Sr x=c_ then ar (.str x)else none
 |n+1,.tup ds=>(mapP (gm S n) ds).map .tuple
 |n+1,.lst k=>(S[k]?).bind λxs=>(mapP (gm S n) xs).map .list
 |n+1,.fz ds=>(mapP (gm S n) ds).map .list
 |_,_=>none
section
variable {K:dt}{ι:List b_}{S:aB}{H:Hp}
theorem lQ{f:D->Option o_}(Z:∀d p v,f d=ar p->RelD K ι H d v->ReadsV H v p/\p.canLay0=c_/\p.depth<=n):
  ∀{ds:List D} {ps:List o_} {vs:List V},mapP f ds=ar ps->RelDs K ι H ds vs->ReadsVs H vs ps/\PyData.canLayAll0 ps=c_/\u0 ps<=n
 |[],ps,vs,e,r=>by
  cases e;rw[r.nil_inv];exact⟨.nil,rfl,NN _⟩
 | d ::ds,ps,vs,e,r=>by
  obtain⟨v,ws,rfl,X,Y⟩:=r.cons_inv;unfold mapP at e;cases q:f d with
  |none=>rw[q]at e;cases e
  | some p=>
   rw[q]at e;cases q2:mapP f ds with
   |none=>rw[q2]at e;cases e
   | some ps'=>
    rw[q2]at e;cases e;obtain⟨U,R,T⟩:=Z d p v q X;obtain⟨k1,k2,k3⟩:=lQ Z q2 Y;refine⟨.cons U k1,?_,?_⟩
    ·show(PyData.canLay0 p && PyData.canLayAll0 ps')=c_;rw[R,k2];rfl
    ·show max p.depth (u0 ps')<=n;exact Nat.max_le.mpr ⟨T,k3⟩
theorem oA(X:Rep K ι H S):∀(n:Nat) (d:D) (p:o_) (v:V),gm S n d=ar p->RelD K ι H d v->ReadsV H v p/\p.canLay0=c_/\p.depth<=n:=by
 intro n
 induction n with
 | zero=>
  intro d p v e r;cases d with
  |non=>cases e;rw[r.non_inv];exact⟨.non,rfl,Nu _⟩
  |bl b=>cases e;rw[r.bl_inv];exact⟨.bl b,rfl,Nu _⟩
  |int i=>cases e;rw[r.int_inv];exact⟨.int i,rfl,Nu _⟩
  |str x=>
   unfold gm at e;split at e
   ·next hs=>cases e;rw[r.str_inv];exact⟨.str x,hs,Nu _⟩
   ·cases e
  |_=>cases e
 | succ n ih=>
  intro d p v e r;cases d with
  |non=>cases e;rw[r.non_inv];exact⟨.non,rfl,NN _⟩
  |bl b=>cases e;rw[r.bl_inv];exact⟨.bl b,rfl,NN _⟩
  |int i=>cases e;rw[r.int_inv];exact⟨.int i,rfl,NN _⟩
  |str x=>
   unfold gm at e;split at e
   ·next hs=>cases e;rw[r.str_inv];exact⟨.str x,hs,NN _⟩
   ·cases e
  | tup ds=>
   obtain⟨a,vs,rfl,Z,Y⟩:=r.tup_inv;unfold gm at e;cases q:mapP (gm S n) ds with
   |none=>rw[q]at e;cases e
   |some ps=>
    rw[q]at e;cases e;obtain⟨k1,k2,k3⟩:=lQ ih q Y;exact⟨.tup Z k1,k2,PF k3⟩
  | lst k=>
   obtain⟨a,rfl,Z⟩:=r.lst_inv;unfold gm at e;cases z:S[k]? with
   |none=>rw[z]at e;cases e
   | some xs=>
    rw[z]at e;obtain⟨vs,U,Y⟩:=X.get k a xs Z z;cases q:mapP (gm S n) xs with
    |none=>simp[q]at e
    |some ps=>
     simp[q]at e;subst e;obtain⟨k1,k2,k3⟩:=lQ ih q Y;exact⟨.lst (.inl U) k1,k2,PF k3⟩
  |ro ds=>cases e
  | fz ds=>
   obtain⟨a,o,vs,rfl,Z,Y⟩:=r.fz_inv;unfold gm at e;cases q:mapP (gm S n) ds with
   |none=>rw[q]at e;cases e
   |some ps=>
    rw[q]at e;cases e;obtain⟨k1,k2,k3⟩:=lQ ih q Y;exact⟨.lst (.inr ⟨o,Z⟩) k1,k2,PF k3⟩
  |emp=>cases e
  |fn a c q ds vs=>cases e
  |exc x ds=>cases e
end
def JR(f:o_->o_->Bool):D->D->M D:=λa b S=>match gm S 60 a,gm S 60 b with
 |some p,ar q=>ar (.ok (.bl (f p q)),S)
 |_,_=>none
def jv:D->D->M D:=JR g8
def gU:D->D->M D:=JR λp q=> !g8 p q
def Mz(f:Bool->Bool):o_->o_->Option Bool
 |d,.list xs=>ar (f (xs.any λy=>g8 y d))
 |d,.tuple xs=>ar (f (xs.any λy=>g8 y d))
 |_,_=>none
def Ky(f:Bool->Bool):D->D->M D:=λa b S=>match gm S 60 a,gm S 60 b with
 |some p,ar q=>match Mz f p q with
  |some r=>ar (.ok (.bl r),S)
  |none=>none
 |_,_=>none
def inD:D->D->M D:=Ky id
section
variable {X:Cx}{E:XD}{a b e:Expr}{m n:TM}{pos:Pos}
def HX(f:o_->o_->Bool):R2:=λx y H Q=>∃p q,(ReadsV H x p/\p.canLay0=c_/\p.depth<=60)/\(ReadsV H y q/\q.canLay0=c_/\q.depth<=60)/\Q (.bl (f p q)) H
theorem j8{p:o_}(h:p.canLay0=c_)(Z:p.depth<=60):SeqAt.shaped p=true:=by unfold SeqAt.shaped;rw[h,Pf];exact NJ (by omega)
theorem BR(T:X.A.units+64<A'):gv X (ip .Eq) (HX g8):=by intro pins s σ H x y v u Q I L P h;obtain⟨p,q,⟨O,Z,Y⟩,⟨N,W,R⟩,h⟩:=h;obtain⟨as,S⟩:=O.heap I.hok L;obtain⟨bs,U⟩:=N.heap I.hok P;exact eq_dataH S U (j8 Z Y) (j8 W R) T ⟨.bl _,H,I,rfl,h⟩
theorem HY(T:X.A.units+64<A'):gv X (ip .NotEq) (HX λp q=> !g8 p q):=by intro pins s σ H x y v u Q I L P h;obtain⟨p,q,⟨O,Z,Y⟩,⟨N,W,R⟩,h⟩:=h;obtain⟨as,S⟩:=O.heap I.hok L;obtain⟨bs,U⟩:=N.heap I.hok P;exact ne_dataH S U (j8 Z Y) (j8 W R) T ⟨.bl _,H,I,rfl,h⟩
theorem tP:ou X.K E (JR f) (HX f):=by
 intro ι S H W U v1 v2 Q rep Y Z c;obtain⟨r,T,e,k⟩:=c;unfold JR at e;split at e
 ·next p q hp hq=>
  cases e;exact⟨p,q,oA rep 60 W p v1 hp Y,oA rep 60 U q v2 hq Z,k ι H .refl rep _ (.bl _)⟩
 ·cases e
theorem yn(W:X.A.units+64<A')(Y:SE X E a m)(Z:SE X E b n):SE X E (.Compare a [.Eq] [b] pos) (λρ=>do let x<-m ρ;let y<-n ρ;jv x y):=tJ (BR W) tP Y Z
theorem r0(W:X.A.units+64<A')(Y:SE X E a m)(Z:SE X E b n):SB X E (.Compare a [.Eq] [b] pos) (λρ=>do let z<-(do let x<-m ρ;let y<-n ρ;jv x y);iZ z):=kI (BR W) tP Y Z
theorem gZ(W:X.A.units+64<A')(Y:SE X E a m)(Z:SE X E b n):SB X E (.Compare a [.NotEq] [b] pos) (λρ=>do let z<-(do let x<-m ρ;let y<-n ρ;gU x y);iZ z):=kI (HY W) tP Y Z
def Kz(f:Bool->Bool):R2:=λx y H Q=>∃p q r,(ReadsV H x p/\p.canLay0=c_/\p.depth<=60)/\(ReadsV H y q/\q.canLay0=c_/\q.depth<=60)/\Mz f p q=ar r/\Q (.bl r) H
theorem yo:ou X.K E (Ky f) (Kz f):=by
 intro ι S H W U v1 v2 Q rep Y Z c;obtain⟨r,T,e,k⟩:=c;unfold Ky at e;split at e
 ·next p q hp hq=>
  split at e
  ·next r hr=>
   cases e;exact⟨p,q,r,oA rep 60 W p v1 hp Y,oA rep 60 U q v2 hq Z,hr,k ι H .refl rep _ (.bl _)⟩
  ·cases e
 ·cases e
theorem xc(h:(wh xs).depth<=60):u0 xs<=60:=Qb h
theorem vk(h:(PyData.tuple xs).depth<=60):u0 xs<=60:=Qb h
theorem BS(K:X.A.units+64<A'):gv X (ip .In) (Kz id):=by
 intro pins s σ H x y v u Q I N R h;obtain⟨p,q,r,⟨P,Y,L⟩,⟨O,W,S⟩,Z,h⟩:=h;obtain⟨as,T⟩:=P.heap I.hok N;obtain⟨bs,U⟩:=O.heap I.hok R;cases q with
 |list xs=>
  cases Z;exact SeqAt.in_list_reads U T W Y (by have:=xc S;have:min (u0 xs) p.depth<=60:=Nz (Nat.min_le_left _ _) this;omega) ⟨.bl _,H,I,rfl,h⟩
 |tuple xs=>
  cases Z;exact SeqAt.in_tuple_reads U T W Y (by have:=vk S;have:min (u0 xs) p.depth<=60:=Nz (Nat.min_le_left _ _) this;omega) ⟨.bl _,H,I,rfl,h⟩
 |_=>cases Z
theorem GI(W:X.A.units+64<A')(U:SE X E a m)(Z:SE X E b n)(Y:ly .In b=false:=by rfl):SE X E (.Compare a [.In] [b] pos) (λρ=>do let x<-m ρ;let y<-n ρ;inD x y):=tJ (BS W) yo U Z Y
theorem KB(W:X.A.units+64<A')(U:SE X E a m)(Z:SE X E b n)(Y:ly .In b=false:=by rfl):SB X E (.Compare a [.In] [b] pos) (λρ=>do let z<-(do let x<-m ρ;let y<-n ρ;inD x y);iZ z):=kI (BS W) yo U Z Y
end
section
variable {X:Cx}{E:XD}{a b e c:Expr}{m n l:TM}{pos p2:Pos}{es:List Expr}{ms:aI->M (List D)}
def KC(f:Bool->Bool):D->D->M D
 | .bl i,.bl j=>aw (.bl (f (i==j)))
 |d,.non=>match d with
  | .non=>aw (.bl (f c_))
  |_=>aw (.bl (f dr))
 |_,_=>M.fail
theorem KD:gv X (ip .Is) (λx y H Q=>∃i j,x= .bl i/\y= .bl j/\Q (.bl (i==j)) H):=by intro pins s σ H x y v u Q I Y Z h;obtain⟨i,j,rfl,rfl,q⟩:=h;cases Y;cases Z;exact is_bool ⟨.bl _,H,I,rfl,q⟩
theorem HZ{f:Bool->Bool}:ou X.K E (KC f) (λx y H Q=>(∃i j,x= .bl i/\y= .bl j/\Q (.bl (f (i==j))) H)\/(y= .non/\Q (.bl (f (decide (x= .non)))) H)):=by
 intro ι S H Y U v1 v2 Q rep Z W c;cases U with
 |non=>
  refine .inr ⟨W.non_inv,?_⟩;cases Y with
  |non=>rw[Z.non_inv];exact ah c .refl rep _ (.bl _)
  |bl i=>rw[Z.bl_inv];exact ah c .refl rep _ (.bl _)
  |int i=>rw[Z.int_inv];exact ah c .refl rep _ (.bl _)
  |str i=>rw[Z.str_inv];exact ah c .refl rep _ (.bl _)
  |tup ds=>obtain⟨p,vs,rfl,_,_⟩:=Z.tup_inv;exact ah c .refl rep _ (.bl _)
  |lst k=>obtain⟨p,rfl,_⟩:=Z.lst_inv;exact ah c .refl rep _ (.bl _)
  |ro ds=>obtain⟨p,vs,rfl,_,_⟩:=Z.ro_inv;exact ah c .refl rep _ (.bl _)
  |fz ds=>obtain⟨p,_,vs,rfl,_,_⟩:=Z.fz_inv;exact ah c .refl rep _ (.bl _)
  |emp=>cases Z;exact ah c .refl rep _ (.bl _)
  |fn a c q ds vs=>cases Z;exact ah c .refl rep _ (.bl _)
  |exc x ds=>cases Z<;>exact ah c .refl rep _ (.bl _)
 |bl j=>
  cases Y with
  |bl i=>exact .inl ⟨i,j,Z.bl_inv,W.bl_inv,ah c .refl rep _ (.bl _)⟩
  |_=>exact(ag c).elim
 |_=>cases Y<;>exact(ag c).elim
theorem GJ(Y:SE X E a m)(Z:SE X E b n):SB X E (.Compare a [.Is] [b] pos) (λρ=>do let z<-(do let x<-m ρ;let y<-n ρ;KC id x y);iZ z):=kI (KD.or HH) (HZ (f:=id)) Y Z
def MW:D->M Int
 | .int i=>aw i
 |_=>M.fail
def Nf(K:dt)(E:XD)(m:aI->M (Option Int)):TO:=λσ H Q=>∃ ι S ρ,Rep K ι H S/\RelE K ι H ρ σ/\cont K E (m ρ) ι S H (λo _ _ H'=>Q o H')
def SO(X:Cx)(E:XD)(o:Option Expr)(m:aI->M (Option Int)):Prop:=PO X o (Nf X.K E m)
theorem PO.imp{X:Cx}{e:Option Expr}{t t':TO}(h:PO X e t)(k:∀ σ H Q,t' σ H Q->t σ H Q):PO X e t':=λpins s σ H Q I hw=>h pins s σ H Q I (k σ H Q hw)
theorem bZ:SO X E none (λ_=>aw none):=by refine PO.imp EI λσ H Q h=>?_;obtain⟨ι,S,ρ,rep,re,c⟩:=h;exact ah c .refl rep
theorem bP(h:SE X E e m):SO X E (ar e) (λρ=>do let x<-m ρ;let i<-MW x;aw (ar i)):=by
 refine PO.imp (EJ h) λσ H Q h=>?_;obtain⟨ι,S,ρ,rep,re,c⟩:=h;refine⟨ι,S,ρ,rep,re,ak (ai c) λx Y S1 W e1 rep1 Z v r=>?_⟩;cases x with
 |int i=>exact⟨i,r.int_inv,ah (ah (ai Z) .refl rep1) .refl rep1⟩
 |_=>exact(ag (ai Z)).elim
def cutD(xs:List D)(lo hi:Option Int):List D:=(xs.drop (HT.sIx xs.length 0 lo)).take (HT.sIx xs.length xs.length hi - HT.sIx xs.length 0 lo)
theorem oB{K:dt}{ι:List b_}{H:Hp}{ds:List D}{vs:List V}(Z Y:Option Int)(h:RelDs K ι H ds vs):RelDs K ι H (cutD ds Z Y) (rk vs Z Y):=by unfold cutD rk;rw[h.length];exact(h.drop _).take _
def pB:D->Option Int->Option Int->M D
 | .tup xs,lo,hi=>cW (cutD xs lo hi)
 | .lst k,lo,hi=>do let xs<-getL k;bp (cutD xs lo hi)
 | .fz xs,lo,hi=>bp (cutD xs lo hi)
 |_,_,_=>M.fail
theorem E3:EK X (λx lo T H Q=>∃a xs,x= .ref a/\lu X.K H a xs/\(HT.sIx xs.length 0 lo=0/\HT.sIx xs.length xs.length T=xs.length)/\Q (.ref a) H):=by
 intro pins s σ H x v vl J lo T S Q I N hs R pu h;obtain⟨a,xs,rfl,O,hw,q⟩:=h;cases N;obtain⟨its,r,Z,L⟩:=I.tuple O;have hlen:its.toArray.size=xs.length:=by rw[NG];exact r.length.symm
 refine⟨"tuple",_,PyProof.Rows.slot_tuple_getitem.lookup,Z.typeIs,?_⟩;have fin:EP X pins σ Q (.ref a) s:=⟨.ref a,H,I,rfl,q⟩;obtain⟨os,W,Y,P⟩:=id hs;have U:s.TypeIs (.ref S) "slice":=⟨os,W,Y⟩;unfold Sn
 try with_reducible refine Ov ?_
 first|refine Np (Nv ?_)|skip
 refine Np (wpAny_sequenceKey Z.typeIs (by decide) ?_);refine Np (wpAny_callSpecial?_slot (name:=j2 "__getitem__") Z.typeIs ON
  (Oz ON Z.typeIs entry_tuple_getitem ?_ (args_tuple_getitem _ _)))
 show d_ _ _ (Builtin.Tuple.tupleItemsOf (.ref a)>>=_) _ _ s;refine Np (tupleItemsOf_ Z (Np (Qh U ?_)));rw[if_pos (by decide)];refine Np (HT.sliceApplied_gen hs R pu ?_);rw[hlen,hw.1,hw.2];show d_ _ _ (if ((((0:Nat):Int))==0 && (1:Int)==1 && (xs.length - 0)==xs.length)=c_ then _ else _) _ _ s;rw[if_pos (by simp)];unfold Builtin.Tuple.tupleIsExact;refine Np (Np (Qh Z.typeIs (Nv ?_)));rw[if_pos (by decide)];first
  |exact Np (QC (Nv ⟨_,rfl,Nv fin⟩))
  |exact Np (QC (Np (Nv (Nv ⟨_,rfl,Nv fin⟩))))
theorem xf{xs:List V}{Y Z:Option Int}(h:HT.sIx xs.length 0 Y=0/\HT.sIx xs.length xs.length Z=xs.length):rk xs Y Z=xs:=by unfold rk;rw[h.1,h.2,Pk,Ru,List.take_length]
theorem dU{N O:Option Expr}{ml P:aI->M (Option Int)}(G:SE X E e m)(A:SO X E N ml)(C:SO X E O P):
  SE X E (.Subscript e (.Slice N O none p2) pos) (λρ=>do let x<-m ρ;let i<-ml ρ;let j<-P ρ;pB x i j):=by
 refine PE.imp (uZ (HK.or (E3.or EN)) G A C) λσ H Q h=>?_;obtain⟨ι,S,ρ,rep,re,c⟩:=h;refine⟨ι,S,ρ,rep,re,ak (ai c) λx W S1 w e1 rep1 y v r=>?_⟩;refine⟨W,S1,ρ,rep1,re.later rep e1,ak (ai y) λi T I t e2 rep2 K=>?_⟩;refine⟨T,I,ρ,rep2,(re.later rep e1).later rep1 e2,ak (ai K) λj J s u B rep3 Y=>?_⟩;have R:=(r.later rep1 e2).later rep2 B;cases x with
 | tup ds=>
  obtain⟨p,vs,rfl,Z,L⟩:=R.tup_inv;by_cases hw:HT.sIx vs.length 0 i=0/\HT.sIx vs.length vs.length j=vs.length
  ·refine .inr (.inl ⟨p,vs,rfl,.of Z,hw,i7 Y rep3 Z ?_⟩);have:=oB i j L;rw[xf hw]at this;exact this
  ·exact .inl ⟨p,vs,rfl,.of Z,hw,(fG Y rep3 (oB i j L)).2⟩
 |lst k=>
  obtain⟨p,rfl,Z⟩:=R.lst_inv;obtain⟨ds,vs,_,z,U,F⟩:=br Y rep3 Z;exact .inr (.inr ⟨p,vs,rfl,.of z,(bt F rep3 (oB i j U)).2⟩)
 |fz ds=>
  obtain⟨p,o,vs,rfl,Z,U⟩:=R.fz_inv;exact .inr (.inr ⟨p,vs,rfl,.inl (.inr ⟨o,Z⟩),(bt Y rep3 (oB i j U)).2⟩)
 |_=>exact(ag Y).elim
end
section
variable {X:Cx}{E:XD}{a b e c o:Expr}{m n l:TM}{pos p2:Pos}{es:List Expr}{ms:aI->M (List D)}
def fW:List D->M D
 |[.lst k]=>do let xs<-getL k;aw (.int xs.length)
 |[.tup ds]=>aw (.int ds.length)
 |[.ro ds]=>aw (.int ds.length)
 |[.fz ds]=>aw (.int ds.length)
 |_=>M.fail
theorem Ag:jo X.K E fW (λxs H Q=>∃p ys,xs=[.ref p]/\(jz X.K H p ys\/lu X.K H p ys)/\Q (.int ys.length) H):=by
 intro ι S H ds vs Q rep r c
 match ds,r,c with
 |[.lst k],r,c=>
  obtain⟨v,ws,rfl,W,Z⟩:=r.cons_inv;cases Z.nil_inv;obtain⟨p,rfl,U⟩:=W.lst_inv;obtain⟨es,us,_,R,Y,T⟩:=br c rep U;refine⟨p,us,rfl,.inl (.of R),?_⟩;have:=ah T .refl rep _ (.int _);rw[Y.length]at this;exact this
 |[.tup es],r,c=>
  obtain⟨v,ws,rfl,W,Z⟩:=r.cons_inv;cases Z.nil_inv;obtain⟨p,us,rfl,U,Y⟩:=W.tup_inv;refine⟨p,us,rfl,.inr (.of U),?_⟩;have:=ah c .refl rep _ (.int _);rw[Y.length]at this;exact this
 |[.ro es],r,c=>
  obtain⟨v,ws,rfl,W,Z⟩:=r.cons_inv;cases Z.nil_inv;obtain⟨p,us,rfl,U,Y⟩:=W.ro_inv;refine⟨p,us,rfl,.inl U.sq,?_⟩;have:=ah c .refl rep _ (.int _);rw[Y.length]at this;exact this
 |[.fz es],r,c=>
  obtain⟨v,ws,rfl,W,Z⟩:=r.cons_inv;cases Z.nil_inv;obtain⟨p,o,us,rfl,U,Y⟩:=W.fz_inv;refine⟨p,us,rfl,.inl (.inl (.inr ⟨o,U⟩)),?_⟩;have:=ah c .refl rep _ (.int _);rw[Y.length]at this;exact this
 |[],r,c=>exact(ag c).elim
 |[.non],r,c=>exact(ag c).elim
 |[.bl _],r,c=>exact(ag c).elim
 |[.int _],r,c=>exact(ag c).elim
 |[.str _],r,c=>exact(ag c).elim
 |[.emp],r,c=>exact(ag c).elim
 |d::d2::r',r,c=>cases d<;>exact(ag c).elim
theorem gE(Y:X.mg "len"=none)(W:SE X E e m)(Z:Gl X "len":=by rfl)(hs:dV [e] X.env=[(dr,g6 e X.env)]:=by rfl):SE X E (.Call (.Name "len" p) [e] [] pos) (λρ=>do let ds<-(do let x<-m ρ;let xs<-aw [];aw (x::xs));fW ds):=
 iM tj Ag Z Y PySem.boot_len (af W ao hs) (by decide) (by decide) hs rfl
def yp(f:Int->Int->Int):List D->M D
 |[.int i,.int j]=>aw (.int (f i j))
 |_=>M.fail
theorem pC{f:Int->Int->Int}:jo X.K E (yp f) (λxs H Q=>∃i j,xs=[.int i,.int j]/\Q (.int (f i j)) H):=by
 intro ι S H ds vs Q rep r c;unfold yp at c;split at c
 ·next i j=>
  obtain⟨v,ws,rfl,Y,Z⟩:=r.cons_inv;obtain⟨R,U,rfl,T,W⟩:=Z.cons_inv;cases W.nil_inv;rw[Y.int_inv,T.int_inv];exact⟨i,j,rfl,ah c .refl rep _ (.int _)⟩
 ·exact(ag c).elim
def maxD:List D->M D:=yp λi j=>if j>i then j else i
def minD:List D->M D:=yp λi j=>if j<i then j else i
theorem xg(W:X.calm=c_)(U:X.mg "max"=none)(T:SA X E [a,b] ms)(Y:Gl X "max":=by rfl)(hs:dV [a,b] X.env=[(dr,g6 a X.env),(dr,g6 b X.env)]:=by rfl)(Z:dV [b] X.env=[(dr,g6 b X.env)]:=by rfl):
  SE X E (.Call (.Name "max" p) [a,b] [] pos) (λρ=>do let ds<-ms ρ;maxD ds):=
 iM (zX W) pC Y U (by decide+kernel) T (by decide) (by decide) (by rw[hs,Z]) (by rw[Z];rfl)
theorem BU(W:X.calm=c_)(U:X.mg "min"=none)(T:SA X E [a,b] ms)(Y:Gl X "min":=by rfl)(hs:dV [a,b] X.env=[(dr,g6 a X.env),(dr,g6 b X.env)]:=by rfl)(Z:dV [b] X.env=[(dr,g6 b X.env)]:=by rfl):
  SE X E (.Call (.Name "min" p) [a,b] [] pos) (λρ=>do let ds<-ms ρ;minD ds):=
 iM (zY W) pC Y U (by decide+kernel) T (by decide) (by decide) (by rw[hs,Z]) (by rw[Z];rfl)
def nG:List D->M D
 |[.lst k]=>do let xs<-getL k;bp xs
 |[.tup ds]=>bp ds
 |[.ro ds]=>bp ds
 |[.fz ds]=>bp ds
 |_=>M.fail
def da:List D->M D
 |[.lst k]=>do let xs<-getL k;cW xs
 |[.tup ds]=>cW ds
 |[.fz ds]=>cW ds
 |_=>M.fail
theorem xh:jo X.K E nG (λxs H Q=>∃p ys,xs=[.ref p]/\(jz X.K H p ys\/lu X.K H p ys)/\∀l,H l=none->Q (.ref l) (upd H l (.lst ys))):=by
 intro ι S H ds vs Q rep r c;unfold nG at c;split at c
 ·next k=>
  obtain⟨v,ws,rfl,W,Z⟩:=r.cons_inv;cases Z.nil_inv;obtain⟨p,rfl,U⟩:=W.lst_inv;obtain⟨es,us,_,R,Y,T⟩:=br c rep U;exact⟨p,us,rfl,.inl (.of R),(bt T rep Y).2⟩
 ·next es=>
  obtain⟨v,ws,rfl,W,Z⟩:=r.cons_inv;cases Z.nil_inv;obtain⟨p,us,rfl,U,Y⟩:=W.tup_inv;exact⟨p,us,rfl,.inr (.of U),(bt c rep Y).2⟩
 ·next es=>
  obtain⟨v,ws,rfl,W,Z⟩:=r.cons_inv;cases Z.nil_inv;obtain⟨p,us,rfl,U,Y⟩:=W.ro_inv;exact⟨p,us,rfl,.inl U.sq,(bt c rep Y).2⟩
 ·next es=>
  obtain⟨v,ws,rfl,W,Z⟩:=r.cons_inv;cases Z.nil_inv;obtain⟨p,o,us,rfl,U,Y⟩:=W.fz_inv;exact⟨p,us,rfl,.inl (.inl (.inr ⟨o,U⟩)),(bt c rep Y).2⟩
 ·exact(ag c).elim
theorem vm:jo X.K E da (λxs H Q=>∃p ys,xs=[.ref p]/\((jz X.K H p ys/\∀l,H l=none->Q (.ref l) (upd H l (.tup ys)))\/(lu X.K H p ys/\Q (.ref p) H))):=by
 intro ι S H ds vs Q rep r c;unfold da at c;split at c
 ·next k=>
  obtain⟨v,ws,rfl,U,Y⟩:=r.cons_inv;cases Y.nil_inv;obtain⟨p,rfl,Z⟩:=U.lst_inv;obtain⟨es,us,_,R,W,T⟩:=br c rep Z;exact⟨p,us,rfl,.inl ⟨.of R,(fG T rep W).2⟩⟩
 ·next es=>
  obtain⟨v,ws,rfl,U,Y⟩:=r.cons_inv;cases Y.nil_inv;obtain⟨p,us,rfl,Z,W⟩:=U.tup_inv;exact⟨p,us,rfl,.inr ⟨.of Z,i7 c rep Z W⟩⟩
 ·next es=>
  obtain⟨v,ws,rfl,U,Y⟩:=r.cons_inv;cases Y.nil_inv;obtain⟨p,o,us,rfl,Z,W⟩:=U.fz_inv;exact⟨p,us,rfl,.inl ⟨.inl (.inr ⟨o,Z⟩),(fG c rep W).2⟩⟩
 ·exact(ag c).elim
theorem yq(Y:X.mg "list"=none)(W:SE X E e m)(Z:Gl X "list":=by rfl)(hs:dV [e] X.env=[(dr,g6 e X.env)]:=by rfl):SE X E (.Call (.Name "list" p) [e] [] pos) (λρ=>do let ds<-(do let x<-m ρ;let xs<-aw [];aw (x::xs));nG ds):=
 jZ tq xh Z Y (by decide+kernel) (af W ao hs) (by decide) (by decide) hs rfl
theorem iN(Y:X.mg "tuple"=none)(W:SE X E e m)(Z:Gl X "tuple":=by rfl)(hs:dV [e] X.env=[(dr,g6 e X.env)]:=by rfl):SE X E (.Call (.Name "tuple" p) [e] [] pos) (λρ=>do let ds<-(do let x<-m ρ;let xs<-aw [];aw (x::xs));da ds):=
 jZ rm vm Z Y (by decide+kernel) (af W ao hs) (by decide) (by decide) hs rfl
def iO:List D->M D
 |[.int i]=>if i.natAbs.log2<1920 then aw (.str (L_ i))else M.fail
 |_=>M.fail
theorem Ah:jo X.K E iO (λxs H Q=>∃i,xs=[.int i]/\i.natAbs.log2<1920/\Q (.str (L_ i)) H):=by
 intro ι S H ds vs Q rep r c;unfold iO at c;split at c
 ·next i=>
  obtain⟨v,ws,rfl,Y,Z⟩:=r.cons_inv;cases Z.nil_inv;rw[Y.int_inv];split at c
  ·next h=>exact⟨i,rfl,h,ah c .refl rep _ (.str _)⟩
  ·exact(ag c).elim
 ·exact(ag c).elim
theorem tQ(Y:X.mg "str"=none)(W:SE X E e m)(Z:Gl X "str":=by rfl)(hs:dV [e] X.env=[(dr,g6 e X.env)]:=by rfl):SE X E (.Call (.Name "str" p) [e] [] pos) (λρ=>do let ds<-(do let x<-m ρ;let xs<-aw [];aw (x::xs));iO ds):=
 jZ sX Ah Z Y (by decide+kernel) (af W ao hs) (by decide) (by decide) hs rfl
def E4(H:Hp):V->Option String
 | .non=>ar "NoneType"
 | .bl _=>ar "bool"
 | .int _=>ar "int"
 | .str _=>ar "str"
 | .ref a=>match H a with
  |some (.lst _)=>ar "list"
  |some (.frz _ (.lst _))=>ar "list"
  |some (.tup _)=>ar "tuple"
  |some (.dK _)=>ar "dict"
  |_=>none
 |_=>none
theorem BV{K:dt}{H:Hp}{v:V}{T:String}(h:E4 H v=ar T):TyOf K H v (.type T):=by
 cases v with
 |non=>cases h;exact .non
 |bl b=>cases h;exact .bl b
 |int i=>cases h;exact .int i
 |str x=>cases h;exact .str x
 |ref a=>
  simp only[E4]at h;split at h
  ·next q=>cases h;exact .lst q
  ·next q=>cases h;exact .frz q
  ·next q=>cases h;exact .tup q
  ·next q=>cases h;exact .dK q
  ·cases h
 |_=>cases h
def BW:D->String
 | .non=>"NoneType"
 | .bl _=>"bool"
 | .int _=>"int"
 | .str _=>"str"
 | .tup _=>"tuple"
 | .lst _=>"list"
 | .ro _=>"list"
 | .fz _=>"list"
 | .emp=>"dict"
 | .fn _ _ _ _ _=>"NoneType"
 | .exc _ _=>"NoneType"
def Ia:D->Bool
 | .ro _=>dr
 | .fn _ _ _ _ _=>dr
 | .exc _ _=>dr
 |_=>c_
theorem BX{K:dt}{ι:List b_}{S:aB}{H:Hp}{d:D}{v:V}(Y:Rep K ι H S)(r:RelD K ι H d v)(Z:Ia d=c_):E4 H v=ar (BW d):=by
 cases r with
 |non=>rfl
 |bl=>rfl
 |int=>rfl
 |str=>rfl
 |tup h _=>simp[E4,h,BW]
 |lst h=>
  obtain⟨vs,e⟩:=Y.isL (NU h);simp[E4,e,BW]
 |ro h _=>cases Z
 |fz h _=>simp[E4,h,BW]
 |emp h=>simp[E4,h,BW]
 |fn=>cases Z
 |exc=>cases Z
 |excF=>cases Z
def BY(f:String->Bool):D->M D
 | .ro _=>M.fail
 | .fn _ _ _ _ _=>M.fail
 | .exc _ _=>M.fail
 |d=>aw (.bl (f (BW d)))
theorem vn{K:dt}{E:XD}{ι:List b_}{S:aB}{H:Hp}{f:String->Bool}{d:D}{Q:D->List b_->aB->Hp->Prop}(c:cont K E (BY f d) ι S H Q):Ia d=c_/\cont K E (aw (.bl (f (BW d)))) ι S H Q:=by
 cases d with
 |ro ds=>exact(ag c).elim
 |fn a c' q ds vs=>exact(ag c).elim
 |exc x ds=>exact(ag c).elim
 |_=>exact⟨rfl,c⟩
def iP(t T:String):Bool:=t==T||(t=="bool" && T=="int")
theorem tR(K:dt)(t:String)(Y:t∈["NoneType","bool","int","str","tuple","list","dict"])(T:String)(Z:T∈["bool","int","str","tuple","list"]):rn K (.type t) (.type T)=ar (iP t T):=by simp only[gg,e_,or_false]at Y Z;rcases Y with rfl|rfl|rfl|rfl|rfl|rfl|rfl<;>rcases Z with rfl|rfl|rfl|rfl|rfl<;>rfl
theorem yr(d:D):BW d∈["NoneType","bool","int","str","tuple","list","dict"]:=by cases d<;>simp[BW]
theorem BZ:cY X (.builtin "isinstance") (λxs H Q=>∃x t T,xs=[x,.ty T]/\E4 H x=ar t/\t∈["NoneType","bool","int","str","tuple","list","dict"]/\T∈["bool","int","str","tuple","list"]/\Q (.bl (iP t T)) H):=by intro pins s σ H xs us Q I r h;obtain⟨x,t,T,rfl,W,P,S,q⟩:=h;obtain⟨u,R,rfl,Y,Z⟩:=vals2 r;cases (show R=y7 T from Z);exact z8 I Y (BV W) (tR X.K t P T S) λU=>⟨.bl _,H,I.tok U,rfl,q⟩
theorem eI{p q:Pos}{T:Str}{Ts:String}(N:X.mg "isinstance"=none)(W:X.mg T=none)(K:SE X E e m)(J:la T=ar (.type Ts):=by decide+kernel)(Y:Ts∈["bool","int","str","tuple","list"]:=by decide)(O:Gl X "isinstance":=by rfl)(U:Gl X T:=by rfl)
  (L:T≠"__name__":=by decide) (R:(T==("__debug__":Str))=false:=by decide)
  (hs:dV [e,.Name T q] X.env=[(dr,g6 e X.env),(dr,g6 (.Name T q) X.env)]:=by rfl) (Z:dV [.Name T q] X.env=[(dr,g6 (.Name T q) X.env)]:=by rfl):
  SE X E (.Call (.Name "isinstance" p) [e,.Name T q] [] pos) (λρ=>do let x<-m ρ;BY (λt=>iP t Ts) x):=by
 refine PE.imp (jA BZ O N (by decide+kernel) (fe K (fe (ot U W J (v:=.ty Ts) rfl L R) kF Z) (by rw[hs,Z])) (by decide) (by decide) (by rw[hs,Z]) (by rw[Z];rfl)) λσ H Q h=>?_;obtain⟨ι,S,ρ,rep,re,c⟩:=h;refine⟨ι,S,ρ,rep,re,ak (ai c) λx I S1 G e1 rep1 P v r=>?_⟩;obtain⟨R,P⟩:=vn P;exact⟨v,BW x,Ts,rfl,BX rep1 r R,yr x,Y,ah P .refl rep1 _ (.bl _)⟩
theorem Ai:cY X (.builtin "isinstance") (λxs H Q=>∃x t p T U,xs=[x,.ref p]/\H p=ar (.tup [.ty T,.ty U])/\E4 H x=ar t/\t∈["NoneType","bool","int","str","tuple","list","dict"]/\T∈["bool","int","str","tuple","list"]/\U∈["bool","int","str","tuple","list"]/\
  Q (.bl (iP t T||iP t U)) H):=by
 intro pins s σ H xs us Q I r h;obtain⟨x,t,p,T,U,rfl,A,Z,R,G,L,q⟩:=h;obtain⟨u,C,rfl,Y,O⟩:=vals2 r;cases (show C=ee p from O);obtain⟨_,its,B,⟨cls,dd,data,j⟩,S,N,n,hd⟩:=(show bh X.prog X.w H s.heap p (.tup [.ty T,.ty U])from I.hok p _ A);simp only at N hd;subst N hd;obtain⟨J,v,rfl,F,k⟩:=vals2 B;cases (show J=y7 T from F);cases (show v=y7 U from k);have e:S_ X.K (.type t) [.type T,.type U]=ar (iP t T||iP t U):=by unfold S_ S_ S_;rw[tR X.K t R T G,tR X.K t R U L];cases iP t T<;>cases iP t U<;>rfl
 have fin:∀P,EP X pins σ Q (.bool (iP t T||iP t U)) {s with toks:=P}:=λP=>⟨.bl _,H,I.tok P,rfl,q⟩;have ty:=BV (K:=X.K) Z;generalize hT:y7 t=tv at ty e;cases ty with
 |non=>cases (show u=hY from Y);exact OJ Q2 I.kIn p4 S e (λz=>nomatch z) fin
 |bl y=>cases (show u=u_ y from Y);exact OJ W.kitx_bool I.kIn p4 S e (λz=>nomatch z) fin
 |int i=>obtain⟨t,q⟩:=(show ∃t,u=oi i t from Y);cases q;exact OJ W.kitx_int I.kIn p4 S e (λz=>nomatch z) fin
 |str y=>obtain⟨t,q⟩:=(show ∃t,u=k8 y t from Y);cases q;exact OJ W.kitx_str I.kIn p4 S e (λz=>nomatch z) fin
 |flt y=>obtain⟨t,q⟩:=(show ∃t,u=RV y t from Y);cases q;exact OJ W.kitx_float I.kIn p4 S e (λz=>nomatch z) fin
 | @lst a xs ea=>
  cases (show u=ee a from Y);obtain⟨_,_,n,_,Z⟩:=(show bh X.prog X.w H s.heap a (.lst xs)from I.hok a _ ea);exact OJ P7 I.kIn ⟨_,Z,rfl⟩ S e (λz=>nomatch z) fin
 | @frz a ob xs ea=>
  cases (show u=ee a from Y);obtain⟨_,_,_,n,_,Z⟩:=(show bh X.prog X.w H s.heap a (.frz ob (.lst xs))from I.hok a _ ea);exact OJ P7 I.kIn ⟨_,Z,rfl⟩ S e (λz=>nomatch z) fin
 | @tup a xs ea=>
  cases (show u=ee a from Y);obtain⟨_,_,_,o,Z,R,_⟩:=(show bh X.prog X.w H s.heap a (.tup xs)from I.hok a _ ea);exact OJ W.kitx_tuple I.kIn ⟨o,Z,R⟩ S e (λz=>nomatch z) fin
 | @dK a kvs ea=>
  cases (show u=ee a from Y);obtain⟨_,_,vs,_,o,es,ep,Z,R,_⟩:=(show bh X.prog X.w H s.heap a (.dK kvs)from I.hok a _ ea);exact OJ P8 I.kIn ⟨o,Z,R.1⟩ S e (λz=>nomatch z) fin
 | @dT a kvs ea=>
  cases (show u=ee a from Y);obtain⟨_,_,xs,_,o,es,ep,Z,R,_⟩:=(show bh X.prog X.w H s.heap a (.dT kvs)from I.hok a _ ea);exact OJ P8 I.kIn ⟨o,Z,R.1⟩ S e (λz=>nomatch z) fin
 |ins=>cases hT
theorem E5{p q Y W:Pos}{x1}{T U:Str}{Ts Us:String}(y:X.mg "isinstance"=none)(O:X.mg T=none)(K:X.mg U=none)(w:SE X E e m)(k:la T=ar (.type Ts):=by decide+kernel)(N:la U=ar (.type Us):=by decide+kernel)
  (F:Ts∈["bool","int","str","tuple","list"]:=by decide) (C:Us∈["bool","int","str","tuple","list"]:=by decide) (u:Gl X "isinstance":=by rfl) (P:Gl X T:=by rfl) (L:Gl X U:=by rfl)
  (s:T≠"__name__":=by decide) (G:(T==("__debug__":Str))=false:=by decide) (J:U≠"__name__":=by decide) (I:(U==("__debug__":Str))=false:=by decide)
  (hs:dV [e,.Tuple [.Name T q,.Name U Y] x1 W] X.env=[(dr,g6 e X.env),(dr,g6 (.Tuple [.Name T q,.Name U Y] x1 W) X.env)]:=by rfl) (Z:dV [.Tuple [.Name T q,.Name U Y] x1 W] X.env=[(dr,g6 (.Tuple [.Name T q,.Name U Y] x1 W) X.env)]:=by rfl):
  SE X E (.Call (.Name "isinstance" p) [e,.Tuple [.Name T q,.Name U Y] x1 W] [] pos) (λρ=>do let x<-m ρ;BY (λt=>iP t Ts||iP t Us) x):=by
 refine PE.imp (jA Ai u y (by decide+kernel) (fe w (fe (Bp (fe (ot P O k (v:=.ty Ts) rfl s G) (fe (ot L K N (v:=.ty Us) rfl J I) kF rfl) rfl)) kF Z) (by rw[hs,Z])) (by decide) (by decide) (by rw[hs,Z]) (by rw[Z];rfl)) λσ H Q h=>?_;obtain⟨ι,S,ρ,rep,re,c⟩:=h;refine⟨ι,S,ρ,rep,re,ak (ai c) λx R S1 A e1 rep1 B v r=>?_⟩;obtain⟨G,B⟩:=vn B;refine⟨by show 2<=sizeLine;decide,λp z=>?_⟩;have rep2:=gX (o:=.tup [.ty Ts,.ty Us]) rep1 z;have e2:Ext R A R (upd A p (.tup [.ty Ts,.ty Us])):=fM z;exact⟨v,BW x,p,Ts,Us,rfl,bg,BX rep2 (r.later rep1 e2) G,yr x,F,C,ah B e2 rep2 _ (.bl _)⟩
end
section
variable {X:Cx}{E:XD}{a b e c o tg:Expr}{m n l:TM}{pos p2:Pos}{es:List Expr}{ms:aI->M (List D)}
theorem range_all{bs:List Bool}:(ey bs.length).all (λi=>bs.getD i dr)=bs.all id:=by
 induction bs with
 |nil=>rfl
 |cons b bs ih=>
  rw[NH,List.range_succ_eq_map,Ry,Qk];simp only[List.getD_cons_zero,Sa,id];congr 1
theorem Aj(N:X.calm=c_):cY X (.builtin "all") (λxs H Q=>∃(p:b_) (bs:List Bool),xs=[.ref p]/\jz X.K H p (bs.map V.bl)/\Q (.bl (bs.all id)) H):=by
 intro pins s σ H xs us Q I r h;obtain⟨p,bs,rfl,F,q⟩:=h;obtain⟨u,rfl,C⟩:=vals1 r;cases (show u=ee p from C);obtain⟨its,R,O,x⟩:=I.list F;have T:=O.isList;refine call_all_walk (Q0 T ?_);have W:p<s.heap.objs.size:=by obtain⟨o,J,_⟩:=T;exact Ny J
 have hlen:=R.length;refine⟨s.heap.objs.size,_,_,_,_,_,λi=>bs.getD i dr,rfl,Walks.list (A:=X.A.in1) (by show X.A.handled=none;exact I.ok.hd N) s.heap.objs.size p (NL W) its.toArray,⟨⟨_,NA _ rfl,rfl,rfl⟩,T.push _⟩,?_,λh' y G=>?_⟩
 ·intro i v s' z w L U;have Y:its[i]? =ar v:=by simpa using L
  have B:i<its.length:=(Nx.mp Y).1;have Z:i<bs.length:=by rw[Nt]at hlen;omega
  have:(bs.map V.bl)[i]? =ar (.bl bs[i]):=by rw[NP,Nw Z];rfl
  obtain⟨u,S,P⟩:=R.get this;rw[Y]at S;cases S;cases (show v=u_ bs[i]from P);have:bs.getD i dr=bs[i]:=by simp[List.getD,Z]
  dsimp only at U;rw[this]at U;exact Ot U
 ·have e1:its.toArray.size=bs.length:=by rw[NG, <-hlen,Nt]
  rw[e1,range_all];refine⟨.bl _,H,I.kept (λb o e=>G b o ?_ (Nq _ e)),rfl,q⟩;have:b≠s.heap.objs.size:=NL (Ny e);simpa using this
def boolsOf:List D->Option (List Bool)
 |[]=>ar []
 | .bl i::r=>(boolsOf r).map (i::·)
 |_=>none
theorem jI{K:dt}{ι:List b_}{H:Hp}:∀{ds:List D} {vs:List V} {ns:List Bool},RelDs K ι H ds vs->boolsOf ds=ar ns->vs=ns.map V.bl
 |[],vs,ns,h,e=>by cases e;rw[h.nil_inv];rfl
 | .bl i::ds,vs,ns,h,e=>by
  obtain⟨v,ws,rfl,Y,Z⟩:=h.cons_inv;cases q:boolsOf ds with
  |none=>simp[boolsOf,q]at e
  |some ks=>
   simp[boolsOf,q]at e;subst e;rw[Y.bl_inv,jI Z q];rfl
 | .non::_,_,_,_,e=>by cases e
 | .int _::_,_,_,_,e=>by cases e
 | .str _::_,_,_,_,e=>by cases e
 | .tup _::_,_,_,_,e=>by cases e
 | .lst _::_,_,_,_,e=>by cases e
 | .ro _::_,_,_,_,e=>by cases e
 | .fz _::_,_,_,_,e=>by cases e
 | .emp::_,_,_,_,e=>by cases e
def pD:List D->M D
 |[.lst k]=>do
  let xs<-getL k
  match boolsOf xs with
  |some bs=>aw (.bl (bs.all id))
  |none=>M.fail
 |[.fz xs]=>match boolsOf xs with
  |some bs=>aw (.bl (bs.all id))
  |none=>M.fail
 |_=>M.fail
theorem Ak:jo X.K E pD (λxs H Q=>∃(p:b_) (bs:List Bool),xs=[.ref p]/\jz X.K H p (bs.map V.bl)/\Q (.bl (bs.all id)) H):=by
 intro ι S H ds vs Q rep r c;unfold pD at c;split at c
 ·next k=>
  obtain⟨v,ws,rfl,U,Y⟩:=r.cons_inv;cases Y.nil_inv;obtain⟨p,rfl,T⟩:=U.lst_inv;obtain⟨es,us,_,R,W,Z⟩:=br c rep T;cases q:boolsOf es with
  |none=>rw[q]at Z;exact(ag Z).elim
  |some bs=>
   rw[q]at Z;refine⟨p,bs,rfl,.of ?_,ah Z .refl rep _ (.bl _)⟩;rw[<-jI W q];exact R
 ·next es=>
  obtain⟨v,ws,rfl,U,Y⟩:=r.cons_inv;cases Y.nil_inv;obtain⟨p,o,us,rfl,T,W⟩:=U.fz_inv;cases q:boolsOf es with
  |none=>rw[q]at c;exact(ag c).elim
  |some bs=>
   rw[q]at c;refine⟨p,bs,rfl,.inl (.inr ⟨o,?_⟩),ah c .refl rep _ (.bl _)⟩;rw[<-jI W q];exact T
 ·exact(ag c).elim
theorem tS(Y:X.calm=c_)(W:X.mg "all"=none)(U:SE X E e m)(Z:Gl X "all":=by rfl)(hs:dV [e] X.env=[(dr,g6 e X.env)]:=by rfl):SE X E (.Call (.Name "all" p) [e] [] pos) (λρ=>do let ds<-(do let x<-m ρ;let xs<-aw [];aw (x::xs));pD ds):=
 iM (Aj Y) Ak Z W (by decide+kernel) (af U ao hs) (by decide) (by decide) hs rfl
def cI:D->List D->M D
 | .lst k,[d]=>do let xs<-getL k;kG k (xs++[d])
 |_,_=>M.fail
def lR:D->List D->M D
 | .lst k,[.lst j]=>do let xs<-getL k;let ys<-getL j;kG k (xs++ys)
 | .lst k,[.fz ys]=>do let xs<-getL k;kG k (xs++ys)
 |_,_=>M.fail
def mR:D->List D->M D
 | .lst k,[.int i]=>do
  let xs<-getL k
  if 0<=i/\i<xs.length then
   match xs[i.toNat]? with
   |some y=>do let _<-kG k (xs.eraseIdx i.toNat);aw y
   |none=>M.fail
  else M.fail
 |_,_=>M.fail
theorem B0{K:dt}{H:Hp}{p:b_}{xs:List V}(h:H p=ar (.lst xs)):Mt K "list" (.ref p) H:=.inl ⟨rfl,xs,.of h⟩
def Ib:D->M Unit
 | .lst _=>aw ()
 |_=>M.fail
theorem tT{name:Str}{N:String}{f:D->List D->M D}{r:V->List V->Hp->VK->Prop}{Y:Pos}(R:Slot "list" name N)(P:T5 (.builtin N)=aw (.type "method_descriptor"))(C:Gy X N r)
  (u:EX X.K E f r) (y:SE X E o m) (s:SA X E (e::es) ms)
  (U:j7 o name X.env (g6 o X.env)=g6 o X.env:=by rfl)
  (T:((u' pos (dV (e::es) X.env)).all (λx=> !x.1) && (backToKw pos (keywordEach [] X.env)).all (λx=>x.1.isSome)
   && decide ((e::es).length+([]:List SR).length+(if ([]:List SR).isEmpty then 0 else 1)<30))=true:=by rfl)
  (W:(Y.endLine==pos.line)=true:=by rfl) (hs:dV (e::es) X.env=(dr,g6 e X.env)::dV es X.env:=by rfl) (Z:(u' pos (dV es X.env)).any (·.1)=false:=by rfl):
  SE X E (.Call (.Attribute o name Y) (e::es) [] pos) (λρ=>do let x<-m ρ;Ib x;let ds<-ms ρ;f x ds):=by
 refine PE.imp (GA PySem.F.plainAttrs_list R P C y s U T W hs Z) λσ H Q h=>?_;obtain⟨ι,S,ρ,rep,re,c⟩:=h;refine⟨ι,S,ρ,rep,re,ak (ai c) λx L S1 j e1 rep1 I v J=>?_⟩;cases x with
 |lst k=>
  obtain⟨p,rfl,t⟩:=J.lst_inv;obtain⟨vs,q⟩:=rep1.isL (NU t);have A:=ah (ai I) .refl rep1;exact⟨B0 q,L,S1,ρ,rep1,re.later rep e1,ak (ai A) λds O z B e2 rep2 w vs G=>u O z B (.lst k) ds (.ref p) vs Q rep2 (J.later rep1 e2) G w⟩
 |_=>exact(ag (ai I)).elim
theorem xi:EX X.K E cI yi:=by
 intro ι S H d ds v vs Q rep r rs c;unfold cI at c;split at c
 ·next k d=>
  obtain⟨p,rfl,Z⟩:=r.lst_inv;obtain⟨w,ws,rfl,T,W⟩:=rs.cons_inv;cases W.nil_inv;obtain⟨es,us,_,O,U,P⟩:=br c rep Z;obtain⟨Y,R⟩:=iL P rep Z (U.append (.cons T .nil));rw[Nr]at Y;exact⟨p,us,w,rfl,rfl,O,NK (by simp at Y;omega) fF,R _ .non⟩
 ·exact(ag c).elim
def vo:V->List V->Hp->VK->Prop:=λx vs H Q=>∃l b xs zs,x= .ref l/\vs=[.ref b]/\H l=ar (.lst xs)/\Rd H b (.lst zs)/\xs.length+zs.length<=sizeLine/\Q .non (upd H l (.lst (xs++zs)))
theorem xj:Gy X "list.extend" vo:=by
 intro pins s σ H x vs v us Q I L N h;obtain⟨l,b,xs,zs,rfl,rfl,U,S,K,q⟩:=h;cases L;obtain⟨u,rfl,T⟩:=N.one;cases T;obtain⟨z,its,n,r,J,e⟩:=I.lstM U;obtain⟨G,Z,O,R,P,e2⟩:=Inv.lstR I S;have W:its.toArray.size+Z.toArray.size<=sizeLine:=by rw[NG,NG];omega
 have Y:¬ (!its.toArray.isEmpty && y2 (its.toArray.size+Z.toArray.size))=true:=by rw[Bu W,QV];exact OS
 refine Qa F.slot_list_extend ⟨_,e,rfl⟩ F.entry_list_extend (F.args_list_extend_2 _ _)
  (AutoSeq1.list_extend_list_list_0 l its.toArray n b Z.toArray O Y (by rw[NG];omega) (by omega)) ⟨e,e2,?_⟩
 refine⟨.non,_,I.lset (its':=its++Z) U e (by simp) (r.append R) ?_,rfl,q⟩;rw[Nr];omega
theorem xk:EX X.K E lR vo:=by
 intro ι S H d ds v vs Q rep r rs c;unfold lR at c;split at c
 ·next k j=>
  obtain⟨p,rfl,Z⟩:=r.lst_inv;obtain⟨w,ws,rfl,T,W⟩:=rs.cons_inv;cases W.nil_inv;obtain⟨q,rfl,L⟩:=T.lst_inv;obtain⟨es,us,_,N,U,O⟩:=br c rep Z;obtain⟨I,ys,_,J,P,G⟩:=br O rep L;obtain⟨Y,R⟩:=iL G rep Z (U.append P);rw[Nr]at Y;exact⟨p,q,us,ys,rfl,rfl,N,.inl J,Nz Y fF,R _ .non⟩
 ·next k I=>
  obtain⟨p,rfl,Z⟩:=r.lst_inv;obtain⟨w,ws,rfl,T,W⟩:=rs.cons_inv;cases W.nil_inv;obtain⟨q,o,ys,rfl,L,P⟩:=T.fz_inv;obtain⟨es,us,_,N,U,O⟩:=br c rep Z;obtain⟨Y,R⟩:=iL O rep Z (U.append P);rw[Nr]at Y;exact⟨p,q,us,ys,rfl,rfl,N,.inr ⟨o,L⟩,Nz Y fF,R _ .non⟩
 ·exact(ag c).elim
theorem Al:EX X.K E mR Bv:=by
 intro ι S H d ds v vs Q rep r rs c;unfold mR at c;split at c
 ·next k i=>
  obtain⟨p,rfl,W⟩:=r.lst_inv;obtain⟨w,ws,rfl,L,N⟩:=rs.cons_inv;cases N.nil_inv;rw[L.int_inv];obtain⟨es,us,J,F,U,Z⟩:=br c rep W;split at Z
  ·next hb=>
   cases q:es[i.toNat]? with
   |none=>rw[q]at Z;exact(ag Z).elim
   | some y=>
    rw[q]at Z;obtain⟨G,P,T⟩:=U.get' q;have hlen:=U.length;have I:Ext ι H ι (upd H p (.lst (us.eraseIdx i.toNat))):=tH (NU W);have Y:=RelDs.eraseIdx i.toNat U;have O:=iL (ai Z) rep W Y;have R:us.length<=lim+1:=by have:=O.1;rw[List.length_eraseIdx]at this;split at this<;>omega
    refine⟨p,us,i,i.toNat,G,rfl,rfl,F,by omega,by unfold lim at R;omega,?_,P,?_⟩
    ·unfold Sy;simp only[show ¬ i<0 by omega,if_false];first|(rw[if_pos (by omega)])|(rw[if_pos (by simp;omega)])|(simp;omega)
    ·exact ah O.2 .refl (tI rep W Y) _ (T.later rep I)
  ·exact(ag Z).elim
 ·exact(ag c).elim
theorem gy{Z:Pos}(U:SE X E o m)(T:SE X E e n)
  (W:j7 o "append" X.env (g6 o X.env)=g6 o X.env:=by rfl)
  (Y:(Z.endLine==pos.line)=true:=by rfl) (hs:dV [e] X.env=[(dr,g6 e X.env)]:=by rfl):
  SE X E (.Call (.Attribute o "append" Z) [e] [] pos) (λρ=>do let x<-m ρ;Ib x;let ds<-(do let y<-n ρ;let ys<-aw [];aw (y::ys));cI x ds):=
 tT PySem.F.slot_list_append PySem.F.type_list_append rT xi U (af T ao hs) W (by rw[hs];rfl) Y hs rfl
theorem Am{Z:Pos}(U:SE X E o m)(T:SE X E e n)
  (W:j7 o "extend" X.env (g6 o X.env)=g6 o X.env:=by rfl)
  (Y:(Z.endLine==pos.line)=true:=by rfl) (hs:dV [e] X.env=[(dr,g6 e X.env)]:=by rfl):
  SE X E (.Call (.Attribute o "extend" Z) [e] [] pos) (λρ=>do let x<-m ρ;Ib x;let ds<-(do let y<-n ρ;let ys<-aw [];aw (y::ys));lR x ds):=
 tT PySem.F.slot_list_extend PySem.F.type_list_extend xj xk U (af T ao hs) W (by rw[hs];rfl) Y hs rfl
theorem B1{Z:Pos}(U:SE X E o m)(T:SE X E e n)
  (W:j7 o "pop" X.env (g6 o X.env)=g6 o X.env:=by rfl)
  (Y:(Z.endLine==pos.line)=true:=by rfl) (hs:dV [e] X.env=[(dr,g6 e X.env)]:=by rfl):
  SE X E (.Call (.Attribute o "pop" Z) [e] [] pos) (λρ=>do let x<-m ρ;Ib x;let ds<-(do let y<-n ρ;let ys<-aw [];aw (y::ys));mR x ds):=
 tT PySem.F.slot_list_pop PySem.F.type_list_pop Bw Al U (af T ao hs) W (by rw[hs];rfl) Y hs rfl
theorem An:Mx X.K E jE Gz:=by
 intro ι S H J I G v1 v2 N Q rep R T U c;unfold jE at c;split at c
 ·next k j=>
  obtain⟨p,rfl,W⟩:=R.lst_inv;obtain⟨es,us,_,O,Y,Z⟩:=br c rep W;cases q:wV es.length j with
  |none=>rw[q]at Z;exact(ag Z).elim
  |some at'=>
   rw[q]at Z;obtain⟨L,P⟩:=iL (ai Z) rep W (RelDs.set U at' Y);refine⟨p,us,j,at',rfl,T.int_inv,O,by rw[<-Y.length];exact q,?_⟩;exact ah P .refl (tI rep W (RelDs.set U at' Y))
 ·exact(ag c).elim
theorem yt(N:SE X E o m)(P:SE X E i n)(G:∀v,RW (.Subscript o i pos) X.env v=(do
   let ov<-J' [v] (g6 o X.env);let iv<-J' [v,ov] (g6 i X.env)
   Tu pos
   J' [v,ov,iv] (Ua ov iv v)
   release [v,ov,iv] []):=by intro _;rfl):SG X E (.Subscript o i pos) (λd ρ=>do let x<-m ρ;let y<-n ρ;jE x y d;aw ρ):=by
 refine PG.imp (Ht N P set_list G) λv σ H Q h=>?_;obtain⟨ι,S,ρ,d,rep,re,r,c⟩:=h;refine⟨ι,S,ρ,rep,re,ak (ai c) λx W S1 B e1 rep1 F v1 I=>?_⟩;refine⟨W,S1,ρ,rep1,re.later rep e1,ak (ai F) λy Y O T e2 rep2 R v2 U=>?_⟩;have Z:=(re.later rep e1).later rep1 e2;refine An (E:=E) Y O T x y d v1 v2 v _ rep2 (I.later rep1 e2) U ((r.later rep e1).later rep1 e2) (ak (ai R) λ_ L A C J rep3 K=>?_);exact ah K .refl rep3 σ (Z.later rep2 J)
def bc(lo:Int)(n:Nat):List D:=(ey n).map λi=>.int (lo+(i:Nat))
def kN:List D->M Iter
 |[.int j]=>if -(2 ^ 62)<=j/\j<2 ^ 62 then aw ⟨bc 0 j.toNat,.none⟩else M.fail
 |_=>M.fail
def j9:List D->M Iter
 |[.int i,.int j]=>if -(2 ^ 62)<=i/\i<2 ^ 62/\ -(2 ^ 62)<=j/\j<2 ^ 62 then aw ⟨bc i (j - i).toNat,.none⟩else M.fail
 |_=>M.fail
theorem lS{K:dt}{Y:Int}{n:Nat}{ι:List b_}{H:Hp}:il K ⟨bc Y n,.none⟩ (J9 Y n) ι H:=by
 intro T Q P e rep ok i;refine⟨λd hd=>?_,λh=>?_⟩
 ·have Z:((ey n)[i]?).map (λi:Nat=>D.int (Y+(i:Nat)))=ar d:=by
   have:(bc Y n)[i]? =ar d:=hd;unfold bc at this;rw[NP]at this;exact this
  have U:i<n:=by
   by_cases h:i<n
   ·exact h
   ·rw[Oj (by simp;omega)]at Z;cases Z
  rw[PL U]at Z;cases Z;exact⟨U,λx R S=>by obtain⟨rfl,rfl⟩:=S;exact⟨.refl,rep,.int _⟩⟩
 ·have h':(bc Y n).length<=i:=h;unfold bc at h';rw[Nt,OD]at h';exact h'
theorem iQ(U:X.mg "range"=none)(Q:SE X E a m)(Y:Gl X "range":=by rfl)(hs:dV [a] X.env=[(dr,g6 a X.env)]:=by rfl):
  SI X E tg (.Call (.Name "range" p) [a] [] pos) (λρ=>do let ds<-(do let x<-m ρ;let xs<-aw [];aw (x::xs));kN ds):=by
 intro pins s σ H R I h;refine zS Y U (af Q ao hs) hs pins s σ H R I ?_;obtain⟨ι,S,ρ,rep,re,c⟩:=h;refine⟨ι,S,ρ,rep,re,ak (ai c) λds P S1 O e1 rep1 Z vs r=>?_⟩;unfold kN at Z;split at Z
 ·next j=>
  obtain⟨w,ws,rfl,T,W⟩:=r.cons_inv;cases W.nil_inv;split at Z
  ·next hb=>rw[T.int_inv];exact⟨j,rfl,hb.1,hb.2,ah Z .refl rep1 _ lS⟩
  ·exact(ag Z).elim
 ·exact(ag Z).elim
theorem sd(Q:X.mg "range"=none)(N:SE X E a m)(W:SE X E b n)(U:Gl X "range":=by rfl)(hs:dV [a,b] X.env=[(dr,g6 a X.env),(dr,g6 b X.env)]:=by rfl)(Z:dV [b] X.env=[(dr,g6 b X.env)]:=by rfl):
  SI X E tg (.Call (.Name "range" p) [a,b] [] pos) (λρ=>do let ds<-(do let x<-m ρ;let xs<-(do let y<-n ρ;let ys<-aw [];aw (y::ys));aw (x::xs));j9 ds):=by
 intro pins s σ H R I h;refine zT U Q (af N (af W ao Z) (by rw[hs,Z])) hs Z pins s σ H R I ?_;obtain⟨ι,S,ρ,rep,re,c⟩:=h;refine⟨ι,S,ρ,rep,re,ak (ai c) λds K S1 G e1 rep1 Y vs r=>?_⟩;unfold j9 at Y;split at Y
 ·next i j=>
  obtain⟨w,ws,rfl,P,T⟩:=r.cons_inv;obtain⟨F,L,rfl,J,O⟩:=T.cons_inv;cases O.nil_inv;split at Y
  ·next W=>rw[P.int_inv,J.int_inv];exact⟨i,j,rfl,W,ah Y .refl rep1 _ lS⟩
  ·exact(ag Y).elim
 ·exact(ag Y).elim
def KF:D->M Iter
 | .lst k=>do let xs<-getL k;aw ⟨xs,.some k⟩
 | .tup ds=>aw ⟨ds,.none⟩
 | .ro ds=>aw ⟨ds,.none⟩
 | .fz ds=>aw ⟨ds,.none⟩
 |_=>M.fail
theorem vp{K:dt}{k:Nat}{a:b_}{xs:List D}{ι:List b_}{H:Hp}(R:ι[k]? =ar a):il K ⟨xs,.some k⟩ (LC K a) ι H:=by intro S O N e rep ok i;obtain⟨vs,Y,U⟩:=rep.get k a xs (e.at R) ok;refine⟨λd hd=>?_,λh=>⟨vs,.of Y,by rw[<-U.length];exact h⟩⟩;obtain⟨v,T,Q⟩:=U.get' hd;refine⟨⟨vs,v,.of Y,T⟩,λx P Z=>?_⟩;obtain⟨rfl,Z⟩:=Z;have:=Z vs (.of Y);rw[T]at this;cases this;exact⟨.refl,rep,Q⟩
theorem xm{K:dt}{a:b_}{ds:List D}{vs:List V}{ι:List b_}{S:aB}{H:Hp}(Y:Rep K ι H S)(R:H a=ar (.tup vs))(r:RelDs K ι H ds vs):il K ⟨ds,.none⟩ (Mh K a) ι H:=by intro P L J e rep2 ok i;have Z:=(e.oth a _ R (Y.notIn R (by intro _ z;cases z)) (by intro _ z;cases z) (by intro _ z;cases z)).1;have Q:=r.laterN Y e;refine⟨λd hd=>?_,λh=>⟨vs,.of Z,by rw[<-r.length];exact h⟩⟩;obtain⟨v,T,O⟩:=Q.get' hd;refine⟨⟨vs,v,.of Z,T⟩,λx N U=>?_⟩;obtain⟨rfl,U⟩:=U;have:=U vs (.of Z);rw[T]at this;cases this;exact⟨.refl,rep2,O⟩
theorem se{K:dt}{a:b_}{ds:List D}{vs:List V}{ι:List b_}{S:aB}{H:Hp}(Z:Rep K ι H S)(N:Em K H a vs)(r:RelDs K ι H ds vs):il K ⟨ds,.none⟩ (LC K a) ι H:=by intro O R I e rep2 ok i;have T:Em K R a vs:=N.imp (λ⟨o,h⟩=>⟨o,(e.oth a _ h (Z.notIn h (by intro _ z;cases z)) (by intro _ z;cases z) (by intro _ z;cases z)).1⟩) λz=>z;have P:=r.laterN Z e;have U:jz K R a vs:=T.sq;refine⟨λd hd=>?_,λh=>⟨vs,U,by rw[<-r.length];exact h⟩⟩;obtain⟨v,Q,L⟩:=P.get' hd;refine⟨⟨vs,v,U,Q⟩,λx J Y=>?_⟩;obtain⟨rfl,Y⟩:=Y;have:=Y vs U;rw[Q]at this;cases this;exact⟨.refl,rep2,L⟩
theorem iq(P:SE X E e m):SI X E tg e (λρ=>do let x<-m ρ;KF x):=by
 intro pins s σ H R I h;obtain⟨ι,S,ρ,rep,re,c⟩:=h;obtain⟨r,Q,T,k⟩:=id (ai c);cases r with
 |ex x=>
  refine lA P pins s σ H R I ⟨ι,S,ρ,rep,re,.ex x,Q,T,k⟩
 | ok d=>
  cases d with
  |tup ds=>
   refine Hy P pins s σ H R I ⟨ι,S,ρ,rep,re,.ok (.tup ds),Q,T,λZ W e1 rep1 v U=>?_⟩;obtain⟨p,vs,rfl,Y,O⟩:=U.tup_inv;exact⟨p,rfl,⟨vs,.of Y⟩,ah (k Z W e1 rep1) .refl rep1 _ (xm rep1 Y O)⟩
  |lst j=>
   refine lA P pins s σ H R I ⟨ι,S,ρ,rep,re,.ok (.lst j),Q,T,λZ W e1 rep1 v U=>?_⟩;obtain⟨p,rfl,Y⟩:=U.lst_inv;obtain⟨es,us,_,L,K,N⟩:=br (k Z W e1 rep1) rep1 Y;exact⟨p,rfl,⟨us,.of L⟩,ah N .refl rep1 _ (vp Y)⟩
  |ro ds=>
   refine lA P pins s σ H R I ⟨ι,S,ρ,rep,re,.ok (.ro ds),Q,T,λZ W e1 rep1 v U=>?_⟩;obtain⟨p,vs,rfl,Y,O⟩:=U.ro_inv;exact⟨p,rfl,⟨vs,Y.sq⟩,ah (k Z W e1 rep1) .refl rep1 _ (se rep1 Y O)⟩
  |fz ds=>
   refine lA P pins s σ H R I ⟨ι,S,ρ,rep,re,.ok (.fz ds),Q,T,λZ W e1 rep1 v U=>?_⟩;obtain⟨p,o,vs,rfl,Y,O⟩:=U.fz_inv;exact⟨p,rfl,⟨vs,.inl (.inr ⟨o,Y⟩)⟩,ah (k Z W e1 rep1) .refl rep1 _ (se rep1 (.inl ⟨o,Y⟩) O)⟩
  |_=>exact lA P pins s σ H R I ⟨ι,S,ρ,rep,re,.ok _,Q,T,λZ W e1 rep1 v U=>(ag (k Z W e1 rep1)).elim⟩
theorem vt:cY X (.type "range") (λxs H Q=>∃j,xs=[.int j]/\∀p,H p=none->Q (.ref p) (upd H p (.rng 0 j))):=by intro pins s σ H xs us Q I r h;obtain⟨j,rfl,q⟩:=h;obtain⟨u,rfl,Z⟩:=vals1 r;obtain⟨t,rfl⟩:=(show ∃t,u=oi j t from Z);refine call_range_1 ⟨.ref s.heap.objs.size,_,I.laid (o:=.rng 0 j) (λb o e=>Nq _ e) (Nu _) ⟨_,_,_,NA _ rfl⟩,rfl,q _ (I.hok.fresh (Nu _))⟩
theorem rA(S:X.calm=c_):cY X (.type "list") (λxs H Q=>∃(p:b_) (j:Int),xs=[.ref p]/\H p=ar (.rng 0 j)/\ -(2 ^ 62)<=j/\j<=lim/\∀l,H l=none->Q (.ref l) (upd H l (.lst ((ey j.toNat).map λi:Nat=>V.int (i:Nat))))):=by
 intro pins s σ H xs us Q I r h;obtain⟨p,j,rfl,J,K,G,q⟩:=h;obtain⟨u,rfl,F⟩:=vals1 r;cases (show u=ee p from F);obtain⟨t,u,v,L⟩:=(show bh X.prog X.w H s.heap p (.rng 0 j)from I.hok p _ J);have Y:Builtin.Range.rangeSize 0 j 1=(j.toNat:Int):=by rw[rangeSize_one];split<;>omega
 have Z:j.toNat<=lim:=by omega
 refine call_list_range (I.ok.hd S) L (small_one (by omega) (by omega) K (by unfold lim at G;omega)) Y (by unfold lim at Z;omega) λh' O acc T N P hit=>?_;refine⟨.ref s.heap.objs.size,_,I.laid (t':=O) N (Nu _) (o:=.lst ((ey j.toNat).map λi:Nat=>V.int (i:Nat))) ?_,rfl,q _ (I.hok.fresh (Nu _))⟩;refine⟨by rw[Nt,OD];exact Nz Z fF,acc.toList,T,?_,by simpa using P⟩;obtain⟨hs,R⟩:=hit;have gen:∀(l:List aC) (f:Nat->Int),(∀i v,l[i]? =ar v->∃t,v=oi (f i) t)->bj ((ey l.length).map λi:Nat=>V.int (f i)) l:=by
  intro l
  induction l with
  |nil=>intro f _;exact .nil
  |cons x l ih=>
   intro f hf;rw[NH,List.range_succ_eq_map,NI,N0];obtain⟨t,W⟩:=hf 0 x rfl;refine .cons ⟨t,W⟩ ?_;exact ih (λi=>f (i+1)) λi v U=>hf (i+1) v (by simpa using U)
 have:=gen acc.toList (λi=>(i:Int)) λi v U=>by obtain⟨t,W⟩:=R i v (by simpa using U);exact⟨t,by rw[W];congr 1;omega⟩
 rw[Pe,hs]at this;exact this
def eU:List D->M D
 |[.int j]=>if -(2 ^ 62)<=j/\j<=lim then bp (bc 0 j.toNat)else M.fail
 |_=>M.fail
theorem pE{K:dt}{ι:List b_}{H:Hp}:∀(l:List Nat),RelDs K ι H (l.map λi:Nat=>D.int (0+(i:Nat))) (l.map λi:Nat=>V.int (i:Nat))
 |[]=>.nil
 |x::l=>.cons (by show RelD K ι H (D.int (0+(x:Int))) (V.int (x:Int));rw[QQ];exact .int _) (pE l)
theorem tU(L:X.calm=c_)(O:X.mg "list"=none)(W:X.mg "range"=none)(J:SE X E a m)(R:Gl X "list":=by rfl)(U:Gl X "range":=by rfl)(hs:dV [a] X.env=[(dr,g6 a X.env)]:=by rfl)
  (Y:dV [.Call (.Name "range" q) [a] [] pos2] X.env=[(dr,g6 (.Call (.Name "range" q) [a] [] pos2) X.env)]:=by rfl):
  SE X E (.Call (.Name "list" p) [.Call (.Name "range" q) [a] [] pos2] [] pos) (λρ=>do let ds<-(do let x<-m ρ;let xs<-aw [];aw (x::xs));eU ds):=by
 refine PE.imp (jX (rA L) R O (by decide+kernel) (fe (jX vt U W (by decide+kernel) (af J ao hs) (by decide) (by decide) hs rfl) kF Y) (by decide) (by decide) Y rfl) λσ H Q h=>?_;obtain⟨ι,S,ρ,rep,re,c⟩:=h;refine⟨ι,S,ρ,rep,re,ak (ai c) λds I S1 G e1 rep1 Z vs r=>?_⟩;unfold eU at Z;split at Z
 ·next j=>
  obtain⟨w,ws,rfl,N,P⟩:=r.cons_inv;cases P.nil_inv;split at Z
  ·next hb=>
   rw[N.int_inv];refine⟨j,rfl,λp T=>?_⟩;have rep2:=gX (o:=.rng 0 j) rep1 T;refine⟨p,j,rfl,bg,hb.1,hb.2,?_⟩;have K:=gC Z (fM (o:=.rng 0 j) T);exact(bt K rep2 (pE (ey j.toNat))).2
  ·exact(ag Z).elim
 ·exact(ag Z).elim
end
section
variable {X:Cx}{E:XD}{a b c d e:Expr}{m n l k:TM}{pos p2:Pos}
theorem Ie:SE X E (.Dict [] [] pos) (λ_=>aw .emp):=by intro pins s σ H Q I h;obtain⟨ι,S,ρ,rep,re,Y⟩:=h;have big:SU<s.heap.objs.size:=Qj (by decide) (I.mod.glob.keeps I.bk).lt;have hf:H s.heap.objs.size=none:=I.hok.fresh (Nu _);have Z:bh X.prog X.w (upd H s.heap.objs.size (.dK [])) (s.heap.push {cls:=.type "dict",data:=.dict #[]}) s.heap.objs.size (.dK []):=⟨NN _,beq_eq_false_iff_ne.mpr (j' (NL big)),[],.nil,Heap.DictOf.new s.heap⟩;refine wpAny_Dict_empty ⟨.ref s.heap.objs.size,upd H s.heap.objs.size (.dK []),I.laid (t':=s.toks) (λ_ _ q=>Nq _ q) (Nu _) Z,rfl,?_⟩;exact ah Y (fM hf) (gX rep hf) _ (.emp bg)
def E6(r1 r2 r3:R2)(ta tb tc td:TE):TT:=λσ H Q=>ta σ H λx H1=>tb σ H1 λy H2=>r1 x y H2 λz H3=>∃i,z= .bl i/\
 (if i=c_ then tc σ H3 λw H4=>r2 y w H4 λz2 H5=>∃j,z2= .bl j/\(if j=c_ then td σ H5 λv H6=>r3 w v H6 λz3 H7=>∃g,z3= .bl g/\Q g H7 else Q dr H5)else Q dr H3)
theorem Ao(U:gv X (ip o1) r1)(P:gv X (ip o2) r2)(T:gv X (ip o3) r3)(R:PE X a ta)(Z:PE X b tb)(S:PE X c tc)(W:PE X d td)
  (Y:RH [o1,o2,o3] [b,c,d]=false:=by with_unfolding_all rfl):PT X (.Compare a [o1,o2,o3] [b,c,d] pos) (E6 r1 r2 r3 ta tb tc td):=by
 intro pins s σ H Q I h;refine isTrue_chain (dq (R pins s σ H _ I h) λva s1 ⟨x,H1,I1,q1,w1⟩=>Ti (dq (Z pins s1 σ H1 _ I1 w1) λvb s2 ⟨y,H2,I2,q2,w2⟩=>dq (U pins s2 σ H2 x y va vb _ I2 q1 q2 w2) λ_ s3 ⟨z,H3,I3,q3,i,e3,w3⟩=>?_)) Y;subst e3;cases q3;refine Ot ?_;cases i with
 |false=>exact TZ ⟨H3,I3,w3⟩
 | true=>
  refine T3 (Ti (dq (S pins s3 σ H3 _ I3 w3) λvc s4 ⟨u,H4,I4,q4,w4⟩=>dq (P pins s4 σ H4 y u vb vc _ I4 q2 q4 w4) λ_ s5 ⟨z5,H5,I5,q5,j,e5,w5⟩=>?_));subst e5;cases q5;refine Ot ?_;cases j with
  |false=>exact TZ ⟨H5,I5,w5⟩
  |true=>
   refine T3 (test_last (dq (W pins s5 σ H5 _ I5 w5) λvd s6 ⟨v,H6,I6,q6,w6⟩=>dq (T pins s6 σ H6 u v vc vd _ I6 q4 q6 w6) λ_ s7 ⟨z7,H7,I7,q7,g,e7,w7⟩=>?_));subst e7;cases q7;exact Ot ⟨H7,I7,w7⟩
theorem Ap(h1:gv X (ip o1) J)(h2:gv X (ip o2) P)(h3:gv X (ip o3) s)(hf:ou X.K E f J)(hg:ou X.K E g P)(hh:ou X.K E h s)
  (ha:SE X E a m) (hb:SE X E b n) (hc:SE X E c l) (hd:SE X E d k) (hm:RH [o1,o2,o3] [b,c,d]=false:=by with_unfolding_all rfl):
  SB X E (.Compare a [o1,o2,o3] [b,c,d] pos) (λρ=>do
   let x<-m ρ;let y<-n ρ;let z<-f x y;let i<-iZ z
   if i=c_ then do
    let w<-l ρ;let z2<-g y w;let j<-iZ z2
    if j=c_ then do
     let v<-k ρ;let z3<-h w v
     iZ z3
    else aw dr
   else aw dr):=by
 refine PT.imp (Ao h1 h2 h3 ha hb hc hd hm) λσ H Q q=>?_;obtain⟨ι,S,ρ,rep,re,cc⟩:=q;refine⟨ι,S,ρ,rep,re,ak (ai cc) λx N S1 H1 e1 rep1 c1 v1 J=>?_⟩;have W:=re.later rep e1;refine⟨N,S1,ρ,rep1,W,ak (ai c1) λy I S2 H2 e2 rep2 c2 v2 P=>?_⟩;have B:=W.later rep1 e2;refine hf I S2 H2 x y v1 v2 _ rep2 (J.later rep1 e2) P (ak (ai c2) λz F S3 H3 o rep3 c3 v3 s=>?_);have T:=B.later rep2 o;obtain⟨i,rfl,rfl,p⟩:=lJ rep3 s c3;refine⟨i,rfl,?_⟩;cases i with
 |false=>exact ah p .refl rep3
 | true=>
  refine⟨F,S3,ρ,rep3,T,ak (ai p) λw G S4 H4 e4 Y c5 v4 r=>?_⟩;have A:=T.later rep3 e4;refine hg G S4 H4 y w v2 v4 _ Y ((P.later rep2 o).later rep3 e4) r (ak (ai c5) λz2 u S5 H5 e5 Z c6 v5 r5=>?_);have C:=A.later Y e5;obtain⟨j,rfl,rfl,c7⟩:=lJ Z r5 c6;refine⟨j,rfl,?_⟩;cases j with
  |false=>exact ah c7 .refl Z
  |true=>
   refine⟨u,S5,ρ,Z,C,ak (ai c7) λv L S6 H6 e6 U c8 v6 r6=>?_⟩;refine hh L S6 H6 w v v4 v6 _ U ((r.later Y e5).later Z e6) r6 (ak (ai c8) λz3 b4 S7 H7 e7 R c9 v7 r7=>?_);obtain⟨t,rfl,rfl,O⟩:=lK R r7 c9;exact⟨t,rfl,O⟩
end
section
variable {X:Cx}{E:XD}{e:Expr}{m:TM}{te:TE}{pos p1 p2 p3:Pos}{j:Nat}
end
def insI(x:Int):List Int->List Int
 |[]=>[x]
 |y::r=>if x<=y then x::y::r else y::insI x r
def sortI:List Int->List Int
 |[]=>[]
 |x::r=>insI x (sortI r)
theorem insI_perm(x:Int):∀l,(insI x l).Perm (x::l)
 |[]=>.refl _
 |y::r=>by
  unfold insI;split
  ·exact .refl _
  ·exact(M_ y (insI_perm x r)).trans (List.Perm.swap x y r)
theorem sortI_perm:∀l,(sortI l).Perm l
 |[]=>.refl _
 |x::r=>(insI_perm x _).trans (M_ x (sortI_perm r))
theorem nH(x:Int):∀{l:List Int},l.Pairwise (· <=·)->(insI x l).Pairwise (· <=·)
 |[],_=>by simp[insI]
 | y::r,h=>by
  obtain⟨Y,X⟩:=On.mp h;unfold insI;split
  ·next c=>
   refine On.mpr ⟨λz Z=>?_,h⟩;rcases NB.mp Z with rfl|Z
   ·exact c
   ·exact Int.le_trans c (Y z Z)
  ·next c=>
   refine On.mpr ⟨λz Z=>?_,nH x X⟩;rcases NB.mp ((insI_perm x r).mem_iff.mp Z)with rfl|Z
   ·omega
   ·exact Y z Z
theorem lU:∀l,(sortI l).Pairwise (· <=·)
 |[]=>.nil
 |x::r=>nH x (lU r)
section
variable {X:Cx}{E:XD}{e:Expr}{m:TM}{pos:Pos}
theorem tV:cY X (.builtin "sorted") (λxs H Q=>∃(p:b_) (ns:List Int),xs=[.ref p]/\jz X.K H p (ns.map V.int)/\ns.length<64/\∀l,H l=none->Q (.ref l) (upd H l (.lst ((sortI ns).map V.int)))):=by intro pins s σ H xs us Q I r h;obtain⟨p,ns,rfl,P,R,q⟩:=h;obtain⟨u,rfl,N⟩:=vals1 r;cases (show u=ee p from N);obtain⟨its,Y,U,L⟩:=I.list P;have T:n_ its ns:=Q5 Y;have hlen:=Y.length;rw[Nt]at hlen;refine sorted_ints U.isList T (by omega) λout Z a1 a2 O=>?_;have en:Z=sortI ns:=W.lks_uniq (a2.trans (sortI_perm ns).symm) O (lU ns);subst en;obtain⟨c,S⟩:=sortedAll_at s.heap its out;have hf:H (s.heap.objs.size+1)=none:=I.hok.fresh (P9 _);refine⟨.ref (s.heap.objs.size+1),_,I.laid (t':=s.toks) (o:=.lst ((sortI ns).map V.int)) (λb o e=>sortedAll_old e) (P9 _) ⟨?_,out.toList,c,jY a1,S⟩,rfl,q _ hf⟩;rw[Nt,(sortI_perm ns).length_eq,Oo];omega
theorem pF{K:dt}{ι:List b_}{H:Hp}:∀ns:List Int,RelDs K ι H (ns.map D.int) (ns.map V.int)
 |[]=>.nil
 |n::r=>.cons (.int n) (pF r)
end
end S3
namespace S3
open PySem PySem.Spec PySem.W PyProof.Rows L2
theorem pG{h:fg}:∀{vs:List aC},(∀v∈vs,∃a o us n i t,v= .ref a/\h.get? a=ar o/\o.cls= .type "tuple"/\o.data= .seq us n/\us[0]? =ar (oi i t))->
  ∃Z,KatTups h vs Z/\Z.length=vs.length/\∀f∈Z,∃i t,f=oi i t
 |[],_=>⟨[],.nil,rfl,λ_ z=>nomatch z⟩
 |v::vs,hv=>by
  obtain⟨a,o,us,n,i,t,rfl,e1,e2,Y,X⟩:=hv v NM;obtain⟨Z,k1,k2,k3⟩:=pG λW h'=>hv W (NF _ h');refine⟨_::Z,.cons e1 e2 Y X k1,by simp[k2],λf hf=>?_⟩;rcases NB.mp hf with rfl|hf
  ·exact⟨i,t,rfl⟩
  ·exact k3 f hf
theorem kb:∀ns:List Int,HT.lexLt ns ns=dr
 |[]=>rfl
 |n::r=>by rw[HT.lexLt_cons,if_pos rfl];exact kb r
theorem tW:∀{a b c:List Int},HT.lexLt a b=c_->HT.lexLt b c=c_->HT.lexLt a c=c_
 |[],[],c,h,_=>by cases h
 |[],_::_,[],_,h=>by cases h
 |[],_::_,_::_,_,_=>rfl
 |_::_,[],c,h,_=>by cases h
 |_::_,_::_,[],_,h=>by cases h
 | x::a,y::b,z::c,h1,h2=>by
  rw[HT.lexLt_cons]at h1 h2⊢;split at h1
  ·next e=>
   subst e;split at h2
   ·next e2=>subst e2;rw[if_pos rfl];exact tW h1 h2
   ·next e2=>rw[if_neg e2];exact h2
  ·next e=>
   have Z:x<y:=OC h1;split at h2
   ·next e2=>subst e2;rw[if_neg e];exact h1
   ·next e2=>
    have Y:y<z:=OC h2;rw[if_neg (by omega)];exact NJ (by omega)
theorem tX:∀{a b c:List Int},HT.lexLt a c=c_->HT.lexLt a b=c_\/HT.lexLt b c=c_
 |a,b,[],h=>by cases a<;>cases h
 |[],[],_::_,_=>.inr rfl
 |[],_::_,_::_,_=>.inl rfl
 |_::_,[],_::_,_=>.inr rfl
 | x ::a,y::b,z::c,h=>by
  rw[HT.lexLt_cons]at h;rw[HT.lexLt_cons,HT.lexLt_cons];split at h
  ·next e=>
   subst e;by_cases e2:x=y
   ·subst e2;rw[if_pos rfl,if_pos rfl];exact tX h
   ·rw[if_neg e2,if_neg (j' e2)];rcases Int.lt_or_gt_of_ne e2 with l|l
    ·exact .inl (NJ l)
    ·exact .inr (NJ l)
  ·next e=>
   have h':x<z:=OC h;by_cases e2:x=y
   ·subst e2;rw[if_neg e];exact .inr (NJ h')
   ·rw[if_neg e2];by_cases l:x<y
    ·exact .inl (NJ l)
    ·refine .inr ?_;rw[if_neg (by omega)];exact NJ (by omega)
theorem B2(x:bh P w H h a o):∃Z,h.get? a=ar Z:=by
 cases o with
 |lst xs=>obtain⟨_,_,_,_,e⟩:=x;exact⟨_,e⟩
 |tup xs=>obtain⟨_,_,_,Z,e,_⟩:=x;exact⟨_,e⟩
 |dK kvs=>obtain⟨_,_,_,_,o,_,_,e,_⟩:=x;exact⟨_,e⟩
 |dT kvs=>obtain⟨_,_,_,_,o,_,_,e,_⟩:=x;exact⟨_,e⟩
 |set S n=>obtain⟨o,_,_,_,e,_⟩:=x;exact⟨_,e⟩
 |ins C dx fs=>obtain⟨_,_,_,e,_⟩:=x;exact⟨_,e⟩
 |own y=>exact x
 |xd fs=>obtain⟨_,⟨_,_,_,e,_⟩,_⟩:=x;exact⟨_,e⟩
 |rng lo hi=>obtain⟨_,_,_,e⟩:=x;exact⟨_,e⟩
 |frz Z u=>exact⟨_,x.1⟩
 |tbl ps=>exact⟨_,show h.get? a=ar _ from x⟩
 |met f y=>exact⟨_,show h.get? a=ar _ from x⟩
 |ext φ=>exact x.2.1
section
variable {X:Cx}{pins:List (b_×Obj)}{σ:L2.St}{H:Hp}{s:a_}
theorem xn{us:List aC}(I:L2.Inv X pins σ H s)(N:Fr X.base X.env.locals s.heap m)(F:Fr X.base X.env.locals h2 m)
  (U:∀b o,b≠X.env.locals->s.heap.get? b=ar o->h2.get? b=ar o) (R:s.heap.get? d=none) (O:h2.get? d=ar {cls:=.type "list",data:=.seq us.toArray n}) (L:bj ys us) (G:ys.length<=sizeLine):
  L2.Inv X pins σ (upd H d (.lst ys)) {s with heap:=h2}:=by
 have W:H d=none:=by
  cases e:H d with
  |none=>rfl
  |some o=>obtain⟨Q,q⟩:=B2 (I.hok d o e);rw[R]at q;cases q
 have Y:∀b o,H b=ar o->b≠X.env.locals:=λb o e z=>by rw[z,I.free]at e;cases e
 have old:∀b o,s.heap.get? b=ar o->b≠d:=λb o e z=>by rw[z,R]at e;cases e
 refine I.step (g':=s.gens) (d':=s.drawn) (t':=s.toks) (ch:=[]) (λ_ z=>nomatch z) (λb o Z _ _ e _=>U b o Z e) (λb o Z _ _ e _=>⟨o.slots,U b o Z e⟩)
  (λb o _ e n=>by rw[aM (old b o e)];exact n) (λb o _ e=>?_) (λb xs e=>by rw[aM (aN e W)];exact e) (λb Q u e=>by rw[aM (aN e W)];exact e)
  (λb A e=>⟨#[],by rw[aM (aN e W),e];simp⟩) (λK hm=>?_) (λb u e=>?_) I.bare
 ·by_cases Z:b=X.env.locals
  ·obtain⟨J,_,_,E,_⟩:=F.ns;exact⟨J,by rw[Z];exact E⟩
  ·exact⟨o,U b o Z e⟩
 ·have:K=m:=by
   obtain⟨o1,es,ep,e1,C,_,g1⟩:=hm;obtain⟨o2,B,P,e2,S,_,g2⟩:=N.ns;rw[e1]at e2;cases e2;rw[C]at S;cases S;funext x;rw[<-g1 x, <-g2 x]
  rw[this];exact F.ns
 ·by_cases Z:b=d
  ·subst Z;rw[bg]at e;cases e;exact⟨G,us,n,L,O⟩
  ·rw[aM Z]at e;refine(I.hok b u e).stay (λc v T z=>U c v ?_ z) (λc z=>by rw[aM (aN z W)];exact z) λc xs z=>by rw[aM (aN z W)];exact z
   rcases T with rfl|T
   ·exact Y _ _ e
   ·exact Y _ _ T
end
section
variable {X:Cx}
end
end S3
namespace S4
open PySem PySem.SetTable
def tb(m:Nat):SetTable:=⟨m, #[], #[],0,c_,0,c_⟩
def bW(m:Nat)(h:Int):Nat->Probe
 |0=>(tb m).probeStart h
 |k+1=>(tb m).advance (bW m h k)
theorem Ig(t:lp)(h:Int)(k:Nat):t.advance (bW t.mask h k)=bW t.mask h (k+1):=rfl
theorem Aq(t:lp)(p:Probe)(Z:p.dummy=none):(t.advance p).dummy=none:=by
 unfold Tv;split
 ·exact Z
 ·exact Z
theorem pH(m:Nat)(h:Int):∀k,(bW m h k).dummy=none
 |0=>rfl
 |k+1=>Aq _ _ (pH m h k)
def fO(m:Nat)(h:Int):Nat->Nat×Nat
 |0=>(TK h % (m+1),TK h)
 |n+1=>leap m (fO m h n).1 (fO m h n).2
def run(m i:Nat):Nat:=Ta m i - i
theorem Ih(m i:Nat):run m i<=9:=by unfold run Ta;split<;>omega
def rf(m:Nat)(h:Int):Nat->Nat
 |0=>0
 |n+1=>rf m h n+run m (fO m h n).1+1
theorem B3(m:Nat)(h:Int):∀n,rf m h n<=10*n
 |0=>Nu _
 |n+1=>by
  have:=B3 m h n;have:=Ih m (fO m h n).1;show rf m h n+run m (fO m h n).1+1<=10*(n+1);omega
theorem tY(m:Nat)(h:Int)(n:Nat)(e:bW m h (rf m h n)=⟨(fO m h n).1,run m (fO m h n).1,(fO m h n).1,(fO m h n).2,none⟩):
  ∀r,r<=run m (fO m h n).1->bW m h (rf m h n+r)=⟨(fO m h n).1+r,run m (fO m h n).1 - r,(fO m h n).1,(fO m h n).2,none⟩
 |0,_=>e
 |r+1,hr=>by
  have Z:=tY m h n e r (by omega);show(tb m).advance (bW m h (rf m h n+r))=_;rw[Z];unfold Tv;simp only;rw[if_pos (by omega)];simp only[Probe.mk.injEq,and_true,true_and];omega
theorem pI(m:Nat)(h:Int):∀n,bW m h (rf m h n)=⟨(fO m h n).1,run m (fO m h n).1,(fO m h n).1,(fO m h n).2,none⟩
 |0=>rfl
 |n+1=>by
  have e:=tY m h n (pI m h n) _ (Nu _);show(tb m).advance (bW m h (rf m h n+run m (fO m h n).1))=_;rw[e];unfold Tv;simp only;rw[if_neg (by omega)];rfl
theorem tZ(m:Nat)(h:Int)(n r:Nat)(Z:r<=run m (fO m h n).1):(bW m h (rf m h n+r)).j=(fO m h n).1+r:=by rw[tY m h n (pI m h n) r Z]
theorem yu(m:Nat)(h:Int):∀n,(fO m h n).2=TK h / 32 ^ n
 |0=>by simp[fO]
 |n+1=>by
  show(fO m h n).2 / 32=_;rw[yu m h n,Nat.div_div_eq_div_mul,Nat.pow_succ]
theorem E7(h:Int):TK h<2 ^ 64:=by unfold TK;have Y:0<=h % (2 ^ 64:Int):=Pr _ (by decide);have Z:h % (2 ^ 64:Int)<2 ^ 64:=O4 _ (by decide);omega
theorem MA(m:Nat)(h:Int)(n:Nat):(fO m h (13+n)).2=0:=by
 rw[yu];refine Nat.div_eq_of_lt (NK (E7 h) ?_);have:(2:Nat) ^ 64<=32 ^ 13:=by decide
 exact Nz this (Nat.pow_le_pow_right (by decide) (by omega))
def yw(m:Nat):Nat->Nat->Nat
 |0,a=>a
 |n+1,a=>(yw m n a*5+1) % (m+1)
theorem t4(m:Nat)(h:Int):∀n,(fO m h (13+n)).1=yw m n (fO m h 13).1
 |0=>rfl
 |n+1=>by
  show((fO m h (13+n)).1*5+1+(fO m h (13+n)).2 / 32) % (m+1)=(yw m n (fO m h 13).1*5+1) % (m+1);rw[MA,t4 m h n]
theorem yx(m:Nat)(h:Int):∀n,(fO m h n).1<m+1
 |0=>Q7 _ (by omega)
 |n+1=>Q7 _ (by omega)
theorem MB:∀a,a<8->∀j,j<8->∃n,n<8/\yw 7 n a=j:=by decide+kernel
theorem KG:∀a,a<32->∀j,j<32->∃n,n<32/\yw 31 n a=j:=by decide+kernel
theorem oC(m:Nat):∀n i a,yw m n (yw m i a)=yw m (n+i) a
 |0,i,a=>by rw[Ss];rfl
 |n+1,i,a=>by
  rw[Nat.succ_add];show(yw m n (yw m i a)*5+1) % (m+1)=(yw m (n+i) a*5+1) % (m+1);rw[oC m n i a]
theorem yy:∀j,j<128->∃n,n<128/\yw 127 n 0=j:=by decide+kernel
theorem Ii(a:Nat)(Z:a<128)(j:Nat)(Y:j<128):∃n,n<128/\yw 127 n a=j:=by
 obtain⟨i,W,rfl⟩:=yy a Z;obtain⟨k,X,rfl⟩:=yy j Y;by_cases h:i<=k
 ·exact⟨k - i,by omega,by rw[oC,Nat.sub_add_cancel h]⟩
 ·refine⟨k+128 - i,by omega,?_⟩;rw[oC,show k+128 - i+i=k+128 by omega, <-oC,show yw 127 128 0=0 by decide+kernel]
def GK(m:Nat):Prop:=m=7\/m=31\/m=127
theorem B4(X:GK m)(h:Int)(j:Nat)(W:j<=m):∃n,n<m+14/\(fO m h n).1=j:=by
 rcases X with rfl|rfl|rfl
 ·obtain⟨n,Y,Z⟩:=MB _ (yx 7 h 13) j (by omega);exact⟨13+n,by omega,by rw[t4];exact Z⟩
 ·obtain⟨n,Y,Z⟩:=KG _ (yx 31 h 13) j (by omega);exact⟨13+n,by omega,by rw[t4];exact Z⟩
 ·obtain⟨n,Y,Z⟩:=Ii _ (yx 127 h 13) j (by omega);exact⟨13+n,by omega,by rw[t4];exact Z⟩
theorem cover(Z:GK m)(h:Int)(j:Nat)(X:j<=m):∃K,K<10*TL m/\(bW m h K).j=j:=by obtain⟨n,W,Y⟩:=B4 Z h j X;refine⟨rf m h n,?_,by rw[pI];exact Y⟩;have:=B3 m h n;unfold TL;omega
theorem sf(h:i<m+1):i+run m i<=m:=by unfold run Ta;split<;>omega
theorem Ij{p:Probe}(h:p.j+p.more<=m):((tb m).advance p).j+((tb m).advance p).more<=m:=by
 unfold Tv;split
 ·simp only;omega
 ·simp only[leap];exact sf (Q7 _ (by omega))
theorem sg(m:Nat)(h:Int):∀k,(bW m h k).j+(bW m h k).more<=m
 |0=>sf (Q7 _ (by omega))
 |k+1=>Ij (sg m h k)
theorem E8(m:Nat)(h:Int)(k:Nat)(_:GK m):(bW m h k).j<=m:=Nz (Qq _ _) (sg m h k)
def E9(xs:Array Nat):Prop:=∀(i j a b:Nat),i<j->xs[i]? =ar a->xs[j]? =ar b->a<b
theorem pJ(X:E9 xs):∀(fuel lo hi:Nat),lo<=hi->hi<=xs.size->hi - lo<=fuel->(∀(i a:Nat),i<lo->xs[i]? =ar a->a<j)->(∀(i a:Nat),hi<=i->xs[i]? =ar a->j<=a)->
  Tb xs j fuel lo hi<=xs.size/\(∀(i a:Nat),i<Tb xs j fuel lo hi->xs[i]? =ar a->a<j)/\(∀(i a:Nat),Tb xs j fuel lo hi<=i->xs[i]? =ar a->j<=a)
 |0,lo,hi,h1,h2,h3,h4,h5=>by
  have:lo=hi:=by omega
  subst this;exact⟨h2,h4,h5⟩
 | fuel+1,lo,hi,h1,h2,h3,h4,h5=>by
  unfold Tb;by_cases hlt:lo<hi
  ·rw[if_pos hlt];simp only;have Z:(lo+hi) / 2<xs.size:=by omega
   have U:xs.getD ((lo+hi) / 2) j=xs[(lo+hi) / 2]:=by simp[Tc,Z]
   have Y:xs[(lo+hi) / 2]? =ar xs[(lo+hi) / 2]:=ND Z;rw[U];split
   ·next hc=>
    refine pJ X fuel _ hi (by omega) h2 (by omega) (λi a W e=>?_) h5;by_cases he:i=(lo+hi) / 2
    ·subst he;rw[Y]at e;cases e;exact hc
    ·exact Qj (X i _ a _ (by omega) e Y) hc
   ·next hc=>
    refine pJ X fuel lo _ (by omega) (by omega) (by omega) h4 (λi a W e=>?_);by_cases he:i=(lo+hi) / 2
    ·subst he;rw[Y]at e;cases e;omega
    ·have:=X _ i _ a (by omega) Y e;omega
  ·rw[if_neg hlt];have:lo=hi:=by omega
   subst this;exact⟨h2,h4,h5⟩
theorem pK(Z:E9 xs)(j:Nat):y4 xs j<=xs.size/\(∀(i a:Nat),i<y4 xs j->xs[i]? =ar a->a<j)/\(∀(i a:Nat),y4 xs j<=i->xs[i]? =ar a->j<=a):=
 pJ Z xs.size 0 xs.size (NN _) (Nu _) (by omega) (λ_ _ h=>absurd h (Rr _)) λi a Y e=>by rw[OL Y]at e;cases e
theorem xo(Z:E9 xs)(h:xs[i]? =ar j):y4 xs j=i:=by
 obtain⟨_,W,X⟩:=pK Z j;rcases Qc (y4 xs j) i with l|l|l
 ·have Y:y4 xs j<xs.size:=Qj l (NR.mp h).1;have e:xs[y4 xs j]? =ar xs[y4 xs j]:=ND Y;have T:=Z _ _ _ _ l e h;have U:=X _ _ (Nu _) e;omega
 ·exact l
 ·have:=W i j l h;omega
theorem mS{t:lp}(h:t.slot j= .live i):t.place[i]? =ar j:=by
 unfold slot at h;simp only at h;split at h
 ·next hc=>cases h;exact Tj hc
 ·split at h<;>cases h
theorem oE{t:lp}(Z:E9 t.place)(h:t.place[i]? =ar j):t.slot j= .live i:=by unfold slot;simp only;rw[xo Z h,h];simp
theorem yz{t:lp}(Z:t.dummies= #[])(j:Nat):(∃i,t.slot j= .live i)\/t.slot j= .empty:=by
 unfold slot;simp only;rw[Z];split
 ·exact .inl ⟨_,rfl⟩
 ·exact .inr (by simp[has])
theorem xp{t:lp}(Z:E9 t.place)(h:t.slot j= .empty):∀(i:Nat),t.place[i]? ≠ar j:=λi e=>by rw[oE Z e]at h;cases h
theorem yA(Y:E9 xs)(h:∀(j:Nat),j<n->∃i:Nat,xs[i]? =ar j):∀(j:Nat),j<n->∃i:Nat,j<=i/\xs[i]? =ar j
 |0,hj=>by obtain⟨i,e⟩:=h 0 hj;exact⟨i,NN _,e⟩
 |j+1,hj=>by
  obtain⟨i,W,X⟩:=yA Y h j (by omega);obtain⟨Z,e⟩:=h (j+1) hj;refine⟨Z,?_,e⟩;rcases Qc i Z with l|l|l
  ·omega
  ·subst l;rw[X]at e;cases e
  ·have:=Y _ _ _ _ l e X;omega
theorem Ar{t:lp}(X:E9 t.place)(Y:t.dummies= #[])(hs:t.place.size<=t.mask):∃j,j<=t.mask/\t.slot j= .empty:=by
 apply QW;intro Z;have:∀(j:Nat),j<t.mask+1->∃i:Nat,t.place[i]? =ar j:=λj T=>by
  rcases yz Y j with⟨i,e⟩|e
  ·exact⟨i,mS e⟩
  ·exact absurd ⟨j,by omega,e⟩ Z
 obtain⟨i,U,W⟩:=yA X this t.mask (by omega);have:=(NR.mp W).1;omega
theorem yB{t:lp}(X:t.dummies= #[])(Y:Nat->Int)(h:Int)(K:Nat)(W:t.slot (bW t.mask h K).j= .empty):∀(fuel k:Nat),k<=K->K - k<fuel->
    ∃Z,k<=Z/\Z<=K/\(∀m,k<=m->m<Z->∃i,t.slot (bW t.mask h m).j= .live i/\Y i≠h)/\
      ((t.slot (bW t.mask h Z).j= .empty/\TN t Y h fuel (bW t.mask h k)=ar (.empty (bW t.mask h Z).j none))\/
       (∃i,t.slot (bW t.mask h Z).j= .live i/\Y i=h/\TN t Y h fuel (bW t.mask h k)=ar (.candidate (bW t.mask h Z).j i (bW t.mask h (Z+1)))))
  |0,k,h1,h2=>by omega
  | fuel+1,k,h1,h2=>by
    unfold TN;rcases yz X (bW t.mask h k).j with⟨i,e⟩|e
    · rw[e]
      simp only;by_cases hh:Y i=h
      · rw[if_pos (by simpa using hh)]
        exact⟨k,Nu _,h1,λm a b=>by omega,.inr ⟨i,e,hh,rfl⟩⟩
      · rw[if_neg (by simpa using hh)]
        have T:k≠K:=λz=>by subst z;rw[W]at e;cases e
        obtain⟨Z,g1,g2,g3,U⟩:=yB X Y h K W fuel (k+1) (by omega) (by omega);refine⟨Z,by omega,g2,λm a b=>?_,?_⟩
        · by_cases hm:m=k
          · subst hm;exact⟨i,e,hh⟩
          · exact g3 m (by omega) b
        · rw[Ig];exact U
    · rw[e]
      simp only[pH];exact⟨k,Nu _,h1,λm a b=>by omega,.inl ⟨e,rfl⟩⟩
abbrev Ent:=Int×aC
def At(pl:Array Nat)(es:Array Ent)(j:Nat)(e:Ent):Prop:=∃i:Nat,pl[i]? =ar j/\es[i]? =ar e
structure TPre(t:lp)(es:Array Ent):Prop where
 msk:GK t.mask
 dum:t.dummies= #[]
 siz:t.place.size=es.size
 ris:E9 t.place
 inb:∀(i a:Nat),t.place[i]? =ar a->a<=t.mask
 way:∀(j:Nat) (e:Ent),At t.place es j e->∃k,(bW t.mask e.1 k).j=j/\∀m,m<k->∃e',At t.place es (bW t.mask e.1 m).j e'
structure TOk(t:lp)(es:Array Ent):Prop extends TPre t es where
 few:es.size*5<t.mask*3
theorem TPre.fits(k:TPre t es)(h:es.size<=t.mask):t.fits es.size=true:=by unfold SetTable.fits fill;rw[k.siz,k.dum];simpa using h
theorem TOk.le(k:TOk t es):es.size<=t.mask:=by have:=k.few;omega
theorem TPre.at_of{t:lp}{es:Array Ent}(k:TPre t es){i j:Nat}(h:t.place[i]? =ar j):∃e,es[i]? =ar e/\At t.place es j e:=by
 have Z:i<es.size:=by rw[<-k.siz];exact(NR.mp h).1
 exact⟨es[i],ND Z,i,h,ND Z⟩
theorem B5(Z:Bool):TOk (M' 0 0 Z) #[] where
 msk:=.inl rfl
 dum:=rfl
 siz:=rfl
 ris:=λi j a b _ h _=>by simp[M']at h
 inb:=λi a h=>by simp[M']at h
 way:=λj e ⟨i,h,_⟩=>by simp[M']at h
 few:=by show 0*5<7*3;decide
theorem eO{Z:Type}(xs:Array Z)(p:Nat)(x:Z)(Y:p<=xs.size)(i:Nat):(eg xs p x)[i]? =if i<p then xs[i]? else if i=p then ar x else xs[i - 1]? :=by
 rw[<-NY,SetTable.toList_insertAt];have X:(xs.toList.take p).length=p:=by simp[Y]
 by_cases h1:i<p
 ·rw[if_pos h1,N4 (by omega),Q4 h1,NY]
 ·rw[if_neg h1,PB (by omega),X];by_cases h2:i=p
  ·subst h2;simp
  ·rw[if_neg h2];obtain⟨d,hd⟩:∃d,i - p=d+1:=⟨i - p - 1,by omega⟩;rw[hd,List.getElem?_cons_succ,QR,show p+d=i - 1 by omega,NY]
theorem pL{Z:Type}(xs:Array Z)(p:Nat)(x:Z):(eg xs p x).size=xs.size+1:=by have:=(SetTable.insertAt_perm xs p x).length_eq;simpa using this
theorem B6{X:Array Nat}{es:Array Ent}(hs:X.size=es.size)(Y:p<=X.size)(U:Nat)(W:Ent):
  At (eg X p j) (eg es p e) U W↔At X es U W\/(U=j/\W=e):=by
 have Z:p<=es.size:=by rw[<-hs];exact Y
 constructor
 ·rintro⟨i,h1,h2⟩;rw[eO _ _ _ Y]at h1;rw[eO _ _ _ Z]at h2;by_cases c1:i<p
  ·rw[if_pos c1]at h1 h2;exact .inl ⟨i,h1,h2⟩
  ·rw[if_neg c1]at h1 h2;by_cases c2:i=p
   ·rw[if_pos c2]at h1 h2;cases h1;cases h2;exact .inr ⟨rfl,rfl⟩
   ·rw[if_neg c2]at h1 h2;exact .inl ⟨_,h1,h2⟩
 ·rintro(⟨i,h1,h2⟩|⟨rfl,rfl⟩)
  ·by_cases c1:i<p
   ·exact⟨i,by rw[eO _ _ _ Y,if_pos c1];exact h1,by rw[eO _ _ _ Z,if_pos c1];exact h2⟩
   ·exact⟨i+1,by rw[eO _ _ _ Y,if_neg (by omega),if_neg (by omega)];exact h1,by rw[eO _ _ _ Z,if_neg (by omega),if_neg (by omega)];exact h2⟩
  ·exact⟨p,by rw[eO _ _ _ Y,if_neg (by omega),if_pos rfl],by rw[eO _ _ _ Z,if_neg (by omega),if_pos rfl]⟩
theorem Ik{t:lp}(Z:t.dummies= #[])(j:Nat):t.put j=({t with place:=eg t.place (y4 t.place j) j},y4 t.place j):=by
 unfold put;simp only;rw[Z];have:has (#[]:Array Nat) j=false:=by simp[has]
 rw[this];cases t;simp only at Z;subst Z;rfl
theorem Il(k:TPre t es){e:Ent}(G:j<=t.mask)(H:t.slot j= .empty)(I:(bW t.mask e.1 K).j=j)(O:∀m,m<K->∃S,At t.place es (bW t.mask e.1 m).j S):
  TPre (t.put j).1 (eg es (t.put j).2 e)/\(t.put j).1.mask=t.mask/\(t.put j).1.led=t.led/\(t.put j).1.plain=t.plain:=by
 obtain⟨X,N,L⟩:=pK k.ris j;have P:=xp k.ris H;rw[Ik k.dum];refine⟨⟨k.msk,k.dum,?_,?_,?_,?_⟩,rfl,rfl,rfl⟩
 ·show(eg t.place (y4 t.place j) j).size=_;rw[pL,pL,k.siz]
 ·intro Q R a b T W U;have Y:(eg t.place (y4 t.place j) j)[Q]? =ar a:=W;have Z:(eg t.place (y4 t.place j) j)[R]? =ar b:=U;rw[eO _ _ _ X]at Y Z;by_cases c1:Q<y4 t.place j
  ·rw[if_pos c1]at Y;by_cases c2:R<y4 t.place j
   ·rw[if_pos c2]at Z;exact k.ris _ _ _ _ T Y Z
   ·rw[if_neg c2]at Z;by_cases c3:R=y4 t.place j
    ·rw[if_pos c3]at Z;cases Z;exact N _ _ c1 Y
    ·rw[if_neg c3]at Z;exact k.ris _ _ _ _ (by omega) Y Z
  ·rw[if_neg c1]at Y;rw[if_neg (by omega),if_neg (by omega)]at Z;by_cases c3:Q=y4 t.place j
   ·rw[if_pos c3]at Y;cases Y;have q:=L _ _ (by omega) Z;have:b≠j:=λz=>by subst z;exact P _ Z
    omega
   ·rw[if_neg c3]at Y;exact k.ris _ _ _ _ (by omega) Y Z
 ·intro i a h;have h':(eg t.place (y4 t.place j) j)[i]? =ar a:=h;rw[eO _ _ _ X]at h';by_cases c1:i<y4 t.place j
  ·rw[if_pos c1]at h';exact k.inb _ _ h'
  ·rw[if_neg c1]at h';by_cases c3:i=y4 t.place j
   ·rw[if_pos c3]at h';cases h';exact G
   ·rw[if_neg c3]at h';exact k.inb _ _ h'
 ·intro J S h;have up:∀{a b},At t.place es a b->At (eg t.place (y4 t.place j) j) (eg es (y4 t.place j) e) a b:=λz=>(B6 k.siz X _ _).mpr (.inl z);rcases (B6 k.siz X J S).mp h with h'|⟨rfl,rfl⟩
  ·obtain⟨n,W,U⟩:=k.way _ _ h';exact⟨n,W,λm hm=>let ⟨x,hx⟩:=U m hm;⟨x,up hx⟩⟩
  ·exact⟨K,I,λm hm=>let ⟨x,hx⟩:=O m hm;⟨x,up hx⟩⟩
abbrev Im:=Array (Option Nat)
def As(o:Im)(j:Nat):Prop:=∃k,o[j]? =ar (ar k)
structure Laid(m:Nat)(hs:List Int)(o:Im):Prop where
 siz:o.size=m+1
 way:∀(j k:Nat),o[j]? =ar (ar k)->∃x,hs[k]? =ar x/\∃n,(bW m x n).j=j/\∀i,i<n->As o (bW m x i).j
theorem sh{o:Im}(Q:o.size=m+1)(h:Int)(S:Nat)(N:o[(fO m h S).1]? =ar none):∀(fuel n:Nat),n<=S->S - n<fuel->
  ∃idx,rf m h n<=idx/\RD m o fuel (fO m h n).1 (fO m h n).2=ar (bW m h idx).j/\o[(bW m h idx).j]? =ar none/\∀i,rf m h n<=i->i<idx->As o (bW m h i).j
 |0,n,h1,h2=>by omega
 | fuel+1,n,h1,h2=>by
  have R:Ta m (fO m h n).1+1 - (fO m h n).1=run m (fO m h n).1+1:=by unfold run Ta;split<;>omega
  have P:(fO m h n).1+run m (fO m h n).1<=m:=by have:=yx m h n;unfold run Ta;split<;>omega
  have get:∀k,k<=run m (fO m h n).1->o.getD ((fO m h n).1+k) (ar 0)=o[(fO m h n).1+k]?.getD (ar 0):=λk _=>by simp
  have T:∀k,k<=run m (fO m h n).1->(o.getD ((fO m h n).1+k) (ar 0)).isNone=dr->As o (bW m h (rf m h n+k)).j:=λk U O=>by
   rw[tZ m h n k U];have Z:(fO m h n).1+k<o.size:=by omega
   rw[get k U,ND Z]at O;cases e:o[(fO m h n).1+k]with
   |none=>simp[e]at O
   |some z=>exact⟨z,by rw[ND Z,e]⟩
  unfold RD;rw[R];cases q:(ey (run m (fO m h n).1+1)).find? (λk=>(o.getD ((fO m h n).1+k) (ar 0)).isNone)with
  | some k=>
   simp only;have U:=List.find?_some q;have Y:k<=run m (fO m h n).1:=by have:=List.mem_of_find?_eq_some q;rw[N1]at this;omega
   refine⟨rf m h n+k,by omega,by rw[tZ m h n k Y],?_,λi a b=>?_⟩
   ·rw[tZ m h n k Y];have Z:(fO m h n).1+k<o.size:=by omega
    rw[get k Y,ND Z]at U;rw[ND Z];cases e:o[(fO m h n).1+k]with
    |none=>rfl
    |some z=>simp[e]at U
   ·obtain⟨d,rfl⟩:∃d,i=rf m h n+d:=⟨i - rf m h n,by omega⟩;refine T d (by omega) ?_;have X:=List.find?_eq_some_iff_getElem.mp q;obtain⟨_,I,J,e1,e2⟩:=X;simp at e1;subst e1;have:=e2 d (by omega);simpa using this
  | none=>
   simp only;have X:=List.find?_eq_none.mp q;have W:∀k,k<=run m (fO m h n).1->As o (bW m h (rf m h n+k)).j:=λk U=>T k U (by have:=X k (N1.mpr (by omega));exact Q9.mpr this)
   have K:n≠S:=λz=>by subst z;obtain⟨k,e⟩:=W 0 (NN _);rw[tZ m h n 0 (NN _)]at e;rw[Nat.add_zero,N]at e;cases e
   obtain⟨idx,g1,g2,g3,L⟩:=sh Q h S N fuel (n+1) (by omega) (by omega);have H:rf m h (n+1)=rf m h n+run m (fO m h n).1+1:=rfl;refine⟨idx,by omega,g2,g3,λi a b=>?_⟩;by_cases hi:rf m h (n+1)<=i
   ·exact L i hi b
   ·obtain⟨d,rfl⟩:∃d,i=rf m h n+d:=⟨i - rf m h n,by omega⟩;exact W d (by omega)
def dv(m:Nat)(f:Nat->Option Nat):List (Nat×Nat):=(ey (m+1)).filterMap λj=>(f j).map λk=>(j,k)
theorem lV{Z X:Type}{f g:Z->Option X}:∀{l:List Z},(∀x∈l,f x=g x)->l.filterMap f=l.filterMap g
 |[],_=>rfl
 |x::l,h=>by rw[Ol,Ol,h x NM,lV λy Y=>h y (NF _ Y)]
theorem B7{f g:Nat->Option Nat}(U:j<m+1)(W:f j=none)(X:g j=ar k)(Y:∀i,i≠j->g i=f i):(dv m g).Perm ((j,k)::dv m f):=by
 unfold dv;have e:ey (m+1)=ey j++j::(r_ (j+1) (m - j)):=by rw[List.range_eq_range',List.range_eq_range',show m+1=j+(1+(m - j)) by omega, <-List.range'_append_1, <-List.range'_append_1];simp
 rw[e,List.filterMap_append,List.filterMap_append,Ol,Ol,W,X];simp only[F_,Option.map_none];rw[lV (l:=ey j) (g:=λj=>(f j).map λk=>(j,k)) λx Z=>by rw[Y x (by rw[N1]at Z;omega)],
  lV (l:=r_ (j+1) (m - j)) (g:=λj=>(f j).map λk=>(j,k)) λx Z=>by rw[Y x (by rw[Qd]at Z;omega)]]
 exact List.perm_middle
def fo(o:Im)(j:Nat):Option Nat:=o.getD j none
theorem pM:fo o j=ar k↔o[j]? =ar (ar k):=by
 unfold fo;rw[N7];cases o[j]? with
 |none=>simp
 |some z=>simp
structure LaidN(m:Nat)(hs:List Int)(o:Im):Prop extends Laid m hs o where
 all:((dv m (fo o)).map (·.2)).Perm (ey hs.length)
theorem vv(L:LaidN m hs o):(dv m (fo o)).length=hs.length:=by have:=L.all.length_eq;simpa using this
theorem vw(L:LaidN m hs o)(S:hs.length<=m):∃j,j<=m/\o[j]? =ar none:=by
 apply QW;intro U;have Z:∀j,j∈ey (m+1)->∃k,fo o j=ar k:=λj X=>by
  rw[N1]at X;have Y:j<o.size:=by rw[L.siz];exact X
  cases e:o[j]with
  |none=>exact absurd ⟨j,by omega,by rw[ND Y,e]⟩ U
  |some k=>exact⟨k,pM.mpr (by rw[ND Y,e])⟩
 have:∀l:List Nat,(∀j∈l,∃k,fo o j=ar k)->(l.filterMap λj=>(fo o j).map λk=>(j,k)).length=l.length:=by
  intro l
  induction l with
  |nil=>intro _;rfl
  |cons x l ih=>
   intro h;obtain⟨k,e⟩:=h x NM;rw[Ol,e];simp only[F_,ra];rw[ih λj X=>h j (NF _ X)]
 have T:=this _ Z;have W:=vv L;unfold dv at W;rw[T,OD]at W;omega
theorem B8(Q:GK m)(L:LaidN m hs o)(N:hs.length<=m)(x:Int):
  ∃j,RD m o (TL m) (TK x % (m+1)) (TK x)=ar j/\LaidN m (hs++[x]) (o.setIfInBounds j (ar hs.length)):=by
 obtain⟨J,S,T⟩:=vw L N;obtain⟨H,G,W⟩:=B4 Q x J S;obtain⟨idx,_,g2,g3,P⟩:=sh L.siz x H (by rw[W];exact T) (TL m) 0 (NN _) (by unfold TL;omega);refine⟨(bW m x idx).j,g2,?_⟩;generalize hj:(bW m x idx).j=j at g3⊢;have Y:j<o.size:=(NR.mp g3).1;have self:(o.setIfInBounds j (ar hs.length))[j]? =ar (ar hs.length):=by simp[Y]
 have X:∀i,i≠j->(o.setIfInBounds j (ar hs.length))[i]? =o[i]? :=λi Z=>by rw[Array.getElem?_setIfInBounds_ne (j' Z)]
 have up:∀i,As o i->As (o.setIfInBounds j (ar hs.length)) i:=λi ⟨k,e⟩=>by
  by_cases Z:i=j
  ·subst Z;exact⟨_,self⟩
  ·exact⟨k,by rw[X i Z];exact e⟩
 refine⟨⟨by rw[Array.size_setIfInBounds];exact L.siz,λi k e=>?_⟩,?_⟩
 ·by_cases Z:i=j
  ·subst Z;rw[self]at e;cases e;exact⟨x,by simp,idx,hj,λq U=>up _ (P q (NN _) U)⟩
  ·rw[X i Z]at e;obtain⟨y,R,n,K,I⟩:=L.way i k e;refine⟨y,?_,n,K,λq U=>up _ (I q U)⟩;rw[N4 (Nx.mp R).1];exact R
 ·have O:=B7 (m:=m) (j:=j) (k:=hs.length) (f:=fo o) (g:=fo (o.setIfInBounds j (ar hs.length))) (by rw[<-L.siz];exact Y)
   (by unfold fo;rw[N7,g3];rfl) (pM.mpr self) (λi Z=>by unfold fo;rw[N7,N7,X i Z])
  refine(O.map (·.2)).trans ?_;rw[Nr,Qi,List.range_succ];exact(M_ _ L.all).trans (List.perm_append_singleton _ _).symm
theorem yC(W:GK m):∀(rest hs:List Int) (o:Im),LaidN m hs o->hs.length+rest.length<=m+1->
  ∃Y,rest.foldl (λ(acc:Option (Im×Nat)) h=>do
   let (owner,k)<-acc;let j<-RD m owner (TL m) (TK h % (m+1)) (TK h)
   aw (owner.setIfInBounds j (ar k),k+1)) (ar (o,hs.length))=ar (Y,hs.length+rest.length)/\LaidN m (hs++rest) Y
 |[],hs,o,L,_=>⟨o,rfl,by rw[Om];exact L⟩
 |x::rest,hs,o,L,hl=>by
  rw[NH]at hl;obtain⟨j,e,U⟩:=B8 W L (by omega) x;obtain⟨Y,X,Z⟩:=yC W rest (hs++[x]) _ U (by simp;omega);refine⟨Y,?_,by rw[NZ]at Z;exact Z⟩;rw[List.foldl_cons];simp only[Option.bind_eq_bind,RE,e];rw[Nr,Qi]at X;simp only[Option.bind_eq_bind]at X;rw[NH,show hs.length+(rest.length+1)=hs.length+1+rest.length by omega];exact X
theorem Au(Y:GK m)(Z:Array Int)(W:Z.size<=m+1):∃o,layClean m Z=ar o/\LaidN m Z.toList o:=by
 have X:LaidN m [] (u3 (m+1) none):=by
  refine⟨⟨by simp,λj k e=>?_⟩,?_⟩
  ·rw[Ra]at e;split at e<;>cases e
  ·have:dv m (fo (u3 (m+1) none))=[]:=by
    unfold dv;rw[List.filterMap_eq_nil_iff];intro j _;have:fo (u3 (m+1) none) j=none:=by
     cases e:fo (u3 (m+1) none) j with
     |none=>rfl
     |some k=>
      rw[pM,Ra]at e;split at e<;>cases e
    rw[this];rfl
   rw[this];exact .refl _
 obtain⟨o,e,L⟩:=yC Y Z.toList [] _ X (by simpa using W);refine⟨o,?_,by simpa using L⟩;unfold layClean;rw[<-Array.foldl_toList];rw[show(u3 (m+1) (none:Option Nat),0)=(u3 (m+1) none,([]:List Int).length)from rfl];rw[e];rfl
theorem pN(f:Nat->Option Nat):∀l:List Nat,((l.filterMap λj=>(f j).map λk=>(j,k)).map (·.1)).Sublist l
 |[]=>.slnil
 |x::l=>by
  rw[Ol];cases f x with
  |none=>exact .cons _ (pN f l)
  |some k=>exact .cons₂ _ (pN f l)
theorem pP{f:Nat->Option Nat}:(j,k)∈dv m f↔j<m+1/\f j=ar k:=by
 unfold dv;rw[OR];constructor
 ·rintro⟨a,h1,h2⟩;cases e:f a with
  |none=>rw[e]at h2;cases h2
  |some b=>
   rw[e]at h2;cases h2;exact⟨N1.mp h1,e⟩
 ·rintro⟨h1,h2⟩;exact⟨j,N1.mpr h1,by rw[h2];rfl⟩
theorem Io{l:List Nat}(h:l.Pairwise (· <·)):E9 l.toArray:=by intro i j a b Z X Y;rw[O5]at X Y;obtain⟨T,W⟩:=Nx.mp X;obtain⟨S,U⟩:=Nx.mp Y;have:=QX.mp h i j T S Z;rw[W,U]at this;exact this
theorem B9{Z Y:Type}{f:Z->Option Y}:∀{l:List Z},(∀x∈l,∃y,f x=ar y)->∀i:Nat,(l.filterMap f)[i]? =l[i]?.bind f
 |[],_,i=>by simp
 |x::l,h,i=>by
  obtain⟨y,e⟩:=h x NM;rw[Ol,e];cases i with
  |zero=>simp[e]
  |succ i=>simpa using B9 (λz X=>h z (NF _ X)) i
theorem yD{es:Array Ent}(J:GK m)(A:es.size*5<m*3)(G F:Nat)(K O:Bool):
  ∃(t':lp) (order:Array Nat),laid m G F K O (es.map (·.1))=ar (t',order)/\order.toList.Perm (ey es.size)/\(order.filterMap (es[·]?)).size=es.size/\TOk t' (order.filterMap (es[·]?))/\t'.led=K/\t'.plain=O/\t'.mask=m:=by
 obtain⟨o,e,L⟩:=Au J (es.map (·.1)) (by rw[Array.size_map];omega);have hlen:(es.map (·.1)).toList.length=es.size:=by simp
 have Z:=L.all;rw[hlen]at Z;have I:∀p∈dv m (fo o),∃y,es[p.2]? =ar y:=λp R=>by have:p.2∈ey es.size:=Z.mem_iff.mp (List.mem_map_of_mem R);rw[N1]at this;exact⟨es[p.2],ND this⟩
 have Q:(((dv m (fo o)).map (·.2)).toArray.filterMap (es[·]?)).toList=((dv m (fo o)).map (·.2)).filterMap (es[·]?):=by rw[Array.toList_filterMap]
 have W:(((dv m (fo o)).map (·.2)).toArray.filterMap (es[·]?)).toList.Perm es.toList:=by rw[Q];exact(Z.filterMap _).trans (by rw[filterMap_getElem?_range])
 have X:(((dv m (fo o)).map (·.2)).toArray.filterMap (es[·]?)).size=es.size:=by have:=W.length_eq;simpa using this
 have S:∀(j:Nat) (x:Ent),At (((dv m (fo o)).map (·.1)).toArray) (((dv m (fo o)).map (·.2)).toArray.filterMap (es[·]?)) j x↔∃k,(j,k)∈dv m (fo o)/\es[k]? =ar x:=by
  intro j x;have key:∀i:Nat,(((dv m (fo o)).map (·.2)).toArray.filterMap (es[·]?))[i]? =((dv m (fo o))[i]?).bind λp=>es[p.2]? :=λi=>by
   rw[<-NY,Q,B9 (λz w=>by obtain⟨p,R,rfl⟩:=N8.mp w;exact I p R) i,NP]
   cases (dv m (fo o))[i]? <;>rfl
  constructor
  ·rintro⟨i,Y,U⟩;rw[O5,NP]at Y;rw[key]at U;cases q:(dv m (fo o))[i]? with
   |none=>rw[q]at Y;cases Y
   |some p=>
    rw[q]at Y U;cases Y;exact⟨p.2,NU q,U⟩
  ·rintro⟨k,Y,U⟩;obtain⟨i,P⟩:=Pu.mp Y;exact⟨i,by rw[O5,NP,P];rfl,by rw[key,P];exact U⟩
 refine⟨⟨m,((dv m (fo o)).map (·.1)).toArray, #[],G,K,F,O⟩,((dv m (fo o)).map (·.2)).toArray,?_,by simpa using Z,X,⟨⟨J,rfl,?_,?_,?_,?_⟩,?_⟩,rfl,rfl,rfl⟩
 ·unfold laid;rw[e];rfl
 ·rw[X];show(((dv m (fo o)).map (·.1)).toArray).size=_;rw[NG,Nt,vv L,hlen]
 ·exact Io (List.Pairwise.sublist (pN _ _) List.pairwise_lt_range)
 ·intro i a h;have h':(((dv m (fo o)).map (·.1)).toArray)[i]? =ar a:=h;rw[O5]at h';obtain⟨p,R,rfl⟩:=N8.mp (NU h');have:=(pP.mp R).1;show p.1<=m;omega
 ·intro j x v;obtain⟨k,Y,U⟩:=(S j x).mp v;obtain⟨s,C⟩:=pP.mp Y;obtain⟨y,g1,n,g2,g3⟩:=L.way j k (pM.mp C);have B:y=x.1:=by
   rw[NY,Array.getElem?_map,U]at g1;cases g1;rfl
  subst B;refine⟨n,g2,λi P=>?_⟩;obtain⟨t,H⟩:=g3 i P;have N:(bW m x.1 i).j<m+1:=by rw[<-L.siz];exact(NR.mp H).1
  have T:=pP.mpr ⟨N,pM.mpr H⟩;obtain⟨u,E⟩:=I _ T;exact⟨u,(S _ _).mpr ⟨t,T,E⟩⟩
 ·rw[X];exact A
theorem Av{t:lp}{es:Array Ent}{Y:Nat}(R:es.size=Y)(Q:Y=5\/Y=19):∃(t':lp) (order:Array Nat),t.relaid (es.map (·.1)) (SetTable.grown Y)=ar (t',order)/\order.toList.Perm (ey es.size)/\(order.filterMap (es[·]?)).size=es.size/\
  TOk t' (order.filterMap (es[·]?))/\t'.led=t.led/\t'.plain=t.plain:=by
 rcases Q with rfl|rfl
 ·obtain⟨t',o,X,S,Z,T,W,U,_⟩:=yD (es:=es) (m:=31) (.inr (.inl rfl)) (by rw[R];decide) t.finger (t.movedTo 31) t.led t.plain;exact⟨t',o,X,S,Z,T,W,U⟩
 ·obtain⟨t',o,X,S,Z,T,W,U,_⟩:=yD (es:=es) (m:=127) (.inr (.inr rfl)) (by rw[R];decide) t.finger (t.movedTo 127) t.led t.plain;exact⟨t',o,X,S,Z,T,W,U⟩
end S4
namespace S4
open PySem PySem.Spec PyProof.Rows
section
variable {prog:eb}{w:er}{A:g_}{E:aC->a_->Prop}{s:a_}
theorem items_int(h:ItemsAre (n4 prog w) ks vs):∀v∈vs,∃n t,v=oi n t:=by
 induction h with
 |nil=>intro v Z;cases Z
 | cons h1 _ ih=>
  intro v Z;rcases NB.mp Z with rfl|Z
  ·obtain⟨t,e⟩:=Value.isInt_shape h1;exact⟨_,t,e⟩
  ·exact ih v Z
theorem Aw{Q:Bool->a_->Prop}(Y:k7 (n4 prog w) s.heap ks a)(h:Q c_ s):d_ (eK prog w) A (SM 8 (.ref a)) Q E s:=by
 have U:=Y.typeIs;obtain⟨o,items,n,W,_,hd,X⟩:=Y;unfold SM;refine Np (wpAny_specialOf U F.slot_tuple_hash.lookup ?_);show d_ _ _ (Tq (.ref a)>>=_) _ _ s;refine Np (OQ W hd ?_);refine Np ?_;show d_ _ _ (Ue items _ _) _ _ s;rw[<-Array.forIn_toList];refine Qn _ (λrest r s'=>r.1=none/\s'=s/\∀v∈rest,∃n t,v=oi n t) _ ?_ ?_ _ _ ⟨rfl,rfl,items_int X⟩
 ·rintro v rest r s' ⟨hr,rfl,hall⟩;obtain⟨i,t,rfl⟩:=hall v NM;refine Np ?_;unfold SM;refine Nv ?_;simp only[EA,eo,if_false];exact Nv ⟨rfl,rfl,λu Z=>hall u (NF _ Z)⟩
 ·rintro⟨r1,r2⟩ s' ⟨hr,rfl,_⟩;simp only at hr;subst hr;exact Nv h
theorem nI{Q:Bool->a_->Prop}(Y:k7 (n4 prog w) s.heap ks a)(h:Q dr s):d_ (eK prog w) A (Q_ 8 (.ref a)) Q E s:=by
 have U:=Y.typeIs;obtain⟨o,items,n,W,_,hd,X⟩:=Y;unfold Q_;refine Np (Qh U ?_);simp only;rw[if_pos (by decide)];refine Np (Nv ?_);simp only[EA,eo,if_false];refine Np (OQ W hd ?_);simp only;refine Np ?_;show d_ _ _ (Ue items _ _) _ _ s;rw[<-Array.forIn_toList];refine Qn _ (λrest r s'=>r.1=none/\s'=s/\∀v∈rest,∃n t,v=oi n t) _ ?_ ?_ _ _ ⟨rfl,rfl,items_int X⟩
 ·rintro v rest r s' ⟨hr,rfl,hall⟩;obtain⟨i,t,rfl⟩:=hall v NM;refine Np ?_;unfold Q_;refine Nv ?_;simp only[eo,if_false];exact Nv ⟨rfl,rfl,λu Z=>hall u (NF _ Z)⟩
 ·rintro⟨r1,r2⟩ s' ⟨hr,rfl,_⟩;simp only at hr;subst hr;exact Nv h
theorem Ip(Y:k7 (n4 prog w) s.heap kx ax)(W:∀y∈ys,∃k a,y= .ref a/\k7 (n4 prog w) s.heap k a){Q:Bool->a_->Prop}(h:Q dr s):
  d_ (eK prog w) A (searchCouldBeSeen (.ref ax) ys) Q E s:=by
 unfold searchCouldBeSeen;refine Np ?_;refine Qn _ (λrest r s'=>r.1=none/\s'=s/\∀v∈rest,∃k a,v= .ref a/\k7 (n4 prog w) s.heap k a) _ ?_ ?_ _ _ ⟨rfl,rfl,W⟩
 ·rintro v rest r s' ⟨hr,rfl,hall⟩;obtain⟨k,a,rfl,X⟩:=hall v NM;have tl:∀u∈rest,∃k a,u= .ref a/\k7 (n4 prog w) s'.heap k a:=λu Z=>hall u (NF _ Z);simp only;split
  ·exact Nv ⟨rfl,rfl,tl⟩
  ·refine Np (wpAny_eqIsQuiet_tuple Y ?_);simp only[EA,eo,if_false];refine Np (wpAny_eqIsQuiet_tuple X ?_);simp only[EA,eo,if_false];refine Np (nI Y ?_);simp only[eo,if_false];refine Np (nI X ?_);simp only[eo,if_false];exact Nv ⟨rfl,rfl,tl⟩
 ·rintro⟨r1,r2⟩ s' ⟨hr,rfl,_⟩;simp only at hr;subst hr;exact Nv h
abbrev KA:=List Int×b_
def gW(prog:eb)(w:er)(k:List Int):Int:=tupleKeyHash (n4 prog w) k
def ent(prog:eb)(w:er)(p:KA):Ent:=(gW prog w p.1,.ref p.2)
def xq(prog:eb)(w:er)(h:fg)(L:List KA):Prop:=∀p∈L,k7 (n4 prog w) h p.1 p.2
structure SetAt(prog:eb)(w:er)(h:fg)(a:b_)(o:Obj)(es:Array Ent)(ep:Nat)(t:lp)(L:List KA):Prop where
 get:h.get? a=ar o
 ex:o.ExactSet
 dat:o.data= .set es ep t
 ok:TOk t es
 pln:t.plain=c_
 led:t.led= !(w.params.followText "set-order")
 ents:es.toList=L.map (ent prog w)
 nd:(L.map (·.1)).Nodup
theorem SetAt.fits(k:SetAt prog w h a o es ep t L):t.fits es.size=true:=k.ok.fits k.ok.le
theorem SetAt.ent_at(k:SetAt prog w h a o es ep t L)(i:Nat):es[i]? =(L[i]?).map (ent prog w):=by rw[<-NY,k.ents,NP]
theorem SetAt.len(k:SetAt prog w h a o es ep t L):es.size=L.length:=by rw[<-Pe,k.ents,Nt]
theorem Ca{t:lp}:t.sameMemory t.moves t.mask=ar true:=by unfold SetTable.sameMemory;simp
theorem si{a ax:b_}{o:Obj}{es:Array Ent}{ep:Nat}{t:lp}{L:List KA}{Z:List Int}(hu:A.units<A')(k:SetAt prog w s.heap a o es ep t L)(u:xq prog w s.heap L)(b:k7 (n4 prog w) s.heap Z ax)
  {K:Nat} (v:t.slot (bW t.mask (gW prog w Z) K).j= .empty) (I:K<10*N_ t.mask) {Q:SetFound->a_->Prop}
  (U:Z∈L.map (·.1)->Q (.there none) s)
  (G:Z∉L.map (·.1)->∀n,t.slot (bW t.mask (gW prog w Z) n).j= .empty->(∀m,m<n->∃i,t.slot (bW t.mask (gW prog w Z) m).j= .live i)->Q (.free (bW t.mask (gW prog w Z) n).j dr) s):
  ∀(fuel n:Nat) (st:Option SetTable.Probe),st.getD (t.probeStart (gW prog w Z))=bW t.mask (gW prog w Z) n->n<=K->K - n<fuel->
   (∀m,m<n->∃i,t.slot (bW t.mask (gW prog w Z) m).j= .live i/\∀p,L[i]? =ar p->p.1≠Z)->d_ (eK prog w) A (setSearchFrom a (.ref ax) (gW prog w Z) c_ fuel st) Q E s
 |0,n,st,e,B,h2,h3=>by omega
 | fuel+1,n,st,e,B,h2,h3=>by
  have odd:t.gaveWay=false:=by unfold SetTable.gaveWay;rcases k.ok.msk with h|h|h<;>rw[h]<;>rfl
  unfold setSearchFrom;refine Np (OO k.get k.dat k.fits ?_);simp only;rw[odd];simp only[eo,if_false];rw[e];obtain⟨Y,g1,g2,g3,g4⟩:=yB k.ok.dum (λi=>(es[i]?.map (·.1)).getD 0) (gW prog w Z) K v (10*N_ t.mask) n B (by omega);have stored:∀(i:Nat) (p:KA),L[i]? =ar p->(es[i]?.map (·.1)).getD 0=gW prog w p.1:=λi p W=>by rw[k.ent_at,W];rfl
  have before:∀m,m<Y->∃i,t.slot (bW t.mask (gW prog w Z) m).j= .live i/\∀p,L[i]? =ar p->p.1≠Z:=λm hm=>by
   by_cases hmn:m<n
   ·exact h3 m hmn
   ·obtain⟨i,R,c⟩:=g3 m (by omega) hm;refine⟨i,R,λp W z=>c ?_⟩;rw[stored i p W,z]
  rcases g4 with⟨c1,c2⟩|⟨i,c1,c2,c3⟩
  ·generalize hpr:t.probe _ (gW prog w Z) (bW t.mask (gW prog w Z) n)=pr;have ep:pr=ar (.empty (bW t.mask (gW prog w Z) Y).j none):=hpr.symm.trans c2;subst ep;simp only;refine Nv (G (λN=>?_) Y c1 λm hm=>let ⟨i,q,_⟩:=before m hm;⟨i,q⟩);obtain⟨p,W,rfl⟩:=N8.mp N;obtain⟨P,J⟩:=Pu.mp W;have X:es[P]? =ar (ent prog w p):=by rw[k.ent_at,J];rfl
   have T:P<t.place.size:=by rw[k.ok.siz];exact(NR.mp X).1
   have d:At t.place es t.place[P] (ent prog w p):=⟨P,ND T,X⟩;obtain⟨r,w1,w2⟩:=k.ok.way _ _ d;have O:(bW t.mask (gW prog w p.1) r).j=t.place[P]:=w1;rcases Nat.lt_or_ge r Y with l|l
   ·obtain⟨i,R,c⟩:=before r l;rw[O,oE k.ok.ris (ND T)]at R;cases R;exact c p J rfl
   ·rcases Nat.eq_or_lt_of_le l with l|l
    ·subst l;rw[O,oE k.ok.ris (ND T)]at c1;cases c1
    ·obtain⟨e',i',R,_⟩:=w2 Y l;have g:t.place[i']? =ar (bW t.mask (gW prog w p.1) Y).j:=R;rw[oE k.ok.ris g]at c1;cases c1
  ·generalize hpr:t.probe _ (gW prog w Z) (bW t.mask (gW prog w Z) n)=pr;have ep:pr=ar (.candidate (bW t.mask (gW prog w Z) Y).j i (bW t.mask (gW prog w Z) (Y+1))):=hpr.symm.trans c3;subst ep;simp only;have hi:i<es.size:=by rw[<-k.ok.siz];exact(NR.mp (mS c1)).1
   have S:i<L.length:=by rw[<-k.len];exact hi
   have W:L[i]? =ar L[i]:=Nw S;have X:es[i]? =ar (ent prog w L[i]):=by rw[k.ent_at,W];rfl
   have C:k7 (n4 prog w) s.heap L[i].1 L[i].2:=u _ (OG S);have f:∀y∈List.map (λx:Ent=>x.snd) (Array.filter (λx:Ent=>x.fst==gW prog w Z) es).toList,∃k a,y= .ref a/\k7 (n4 prog w) s.heap k a:=λy hy=>by
    obtain⟨e1,B,rfl⟩:=N8.mp hy;have F:e1∈es.toList:=by have:=Qx.mp B;exact Qx.mpr (Array.mem_filter.mp this).1
    rw[k.ents]at F;obtain⟨p,W,rfl⟩:=N8.mp F;exact⟨p.1,p.2,rfl,u p W⟩
   split
   case' isTrue=>
    refine Np (Ip b f ?_);simp only[eo,if_false]
   all_goals
    rw[X];simp only[ent];refine Np (Ov (wpAny_eqBool_tuple hu C b ?_));refine Np (OO k.get k.dat k.fits ?_);by_cases hq:L[i].1=Z
    ·rw[NJ hq];simp only[Sg,if_true];exact Nv (U (N8.mpr ⟨_,OG S,hq⟩))
    ·rw[NQ hq];simp only[RS,eo,if_false];rw[Ca];simp only[if_true];rw[c1];simp only;rw[X];simp only[ent];refine Np (wpAny_isSame_ref_self (Np (Nv ?_)));simp only[if_true];refine si hu k u b v I U G fuel (Y+1) _ rfl ?_ ?_ λm hm=>?_
     ·have:Y≠K:=λz=>by subst z;rw[v]at c1;cases c1
      omega
     ·have:Y≠K:=λz=>by subst z;rw[v]at c1;cases c1
      omega
     ·by_cases hmn:m<Y
      ·exact before m hmn
      ·have:m=Y:=by omega
       subst this;exact⟨i,c1,λp H=>by rw[W]at H;cases H;exact hq⟩
end
def KI(L:List KA)(p:KA)(L':List KA):Prop:=(p.1∈L.map (·.1)/\L'=L)\/(p.1∉L.map (·.1)/\L'.Perm (p::L))
section
variable {prog:eb}{w:er}{A:g_}{E:aC->a_->Prop}{s:a_}
theorem yE{h:fg}(Y:h.get? a=ar o)(Z:o.data= .set es ep t):(h.update a (RN es' t')).get? a=ar {o with data:=.set es' (ep+1) t'}:=by have:=Oy (RN es' t') Y (by rw[putSet_of es' t' Z];rfl);rw[putSet_of es' t' Z]at this;exact this
theorem Iq(hu:A.units<A')(k:SetAt prog w s.heap a o es ep t L)(hL:xq prog w s.heap L)(hx:k7 (n4 prog w) s.heap kx ax)
  (d:L.length<76) {Q:Bool->a_->Prop}
  (h:∀b h' o' es' ep' t' J,SetAt prog w h' a o' es' ep' t' J->s_ a s.heap h'->KI L (kx,ax) J->Q b {s with heap:=h'}):
  d_ (eK prog w) A (setAddHashed a (.ref ax) (gW prog w kx)) Q E s:=by
 obtain⟨j0,r,l⟩:=Ar k.ok.ris k.ok.dum (by rw[k.ok.siz];exact k.ok.le);obtain⟨K,g,x⟩:=cover k.ok.msk (gW prog w kx) j0 r;have a3:10*N_ t.mask<=100000:=by unfold N_;rcases k.ok.msk with z|z|z<;>rw[z]<;>decide
 unfold setAddHashed setAddHashedIn;refine Ov (Np (OO k.get k.dat k.fits ?_));have v:byScan (.ref ax) es=false:=by simp[byScan,Value.scannable]
 simp only[v,eo,if_false];unfold setSearch;refine Np ?_;refine si hu k hL hx (by rw[x];exact l) g ?_ ?_ 100000 0 none rfl (NN _) (by omega) (λm hm=>by omega)
 ·intro Z;simp only;refine Nv ?_;have e:s={s with heap:=s.heap}:=by cases s;rfl
  rw[e];exact h _ s.heap o es ep t L k (Heap.SameBut.refl a s.heap) (.inl ⟨Z,rfl⟩)
 ·intro Z n hn hb;simp only;refine Np (OO k.get k.dat k.fits ?_);generalize hj:(bW t.mask (gW prog w kx) n).j=j at hn;have H:j<=t.mask:=by
   rw[<-hj];rcases Nat.eq_zero_or_pos n with z|z
   ·subst z;show SetTable.bits _ % (t.mask+1)<=t.mask;have:=Q7 (SetTable.bits (gW prog w kx)) (show t.mask+1>0 by omega);omega
   ·exact E8 _ _ _ k.ok.msk
  obtain⟨T,B,y,F⟩:=Il (e:=ent prog w (kx,ax)) (K:=n) k.ok.toTPre H hn hj λm hm=>by obtain⟨i,q⟩:=hb m hm;obtain⟨e',_,q'⟩:=k.ok.toTPre.at_of (mS q);exact⟨e',q'⟩
  generalize hP:t.put j=P at T B y F⊢;obtain⟨t1,pp⟩:=P;simp only at T B y F⊢;have T:TPre t1 (eg es pp (gW prog w kx,ee ax)):=T;rw[if_pos (by rw[F];exact k.pln)];refine Np (Aw hx ?_);simp only[if_true];have Y:(eg es pp (gW prog w kx,ee ax)).size=es.size+1:=pL _ _ _;have hlen:=k.len;refine Np (wpAny_storeSet_of k.get k.dat ?_ (by rw[Y,Oo];omega));have g1:=yE (es':=eg es pp (gW prog w kx,ee ax)) (t':=t1) k.get k.dat;have C:=OP s.heap a (RN (eg es pp (gW prog w kx,ee ax)) t1);have X:(eg es pp (gW prog w kx,ee ax)).toList=(L.take pp++(kx,ax)::L.drop pp).map (ent prog w):=by rw[SetTable.toList_insertAt,k.ents,OF,NI,List.map_take,Rz];rfl
  have W:(L.take pp++(kx,ax)::L.drop pp).Perm ((kx,ax)::L):=by
   have:=List.perm_middle (a:=(kx,ax)) (l₁:=L.take pp) (l₂:=L.drop pp)
   rwa [O6]at this
  have u:((kx::L.map (·.1))).Nodup:=Ow.mpr ⟨Z,k.nd⟩;have I:∀J:List KA,J.Perm ((kx,ax)::L)->(J.map (·.1)).Nodup:=λJ hp=>(PM (hp.map (λp:KA=>p.1))).mpr u;by_cases hful:t1.tooFull=c_
  ·rw [hful];simp only[Bool.not_false,Sg,if_true];have O:(es.size+1)*5 ≥ t.mask*3:=by
    unfold SetTable.tooFull SetTable.fill at hful;rw[T.siz,T.dum,B,Y]at hful;simpa using hful
   obtain⟨nn,h5,c⟩:∃nn,es.size+1=nn/\(nn=5\/nn=19):=⟨_,rfl,by have:=k.ok.few;rcases k.ok.msk with z|z|z<;>rw[z]at O this<;>omega⟩
   obtain⟨f,ord,r1,r2,r3,r4,r5,r6⟩:=Av (t:=t1) (es:=eg es pp (gW prog w kx,ee ax)) (by rw[Y];exact h5) c;have G:t1.fits (eg es pp (gW prog w kx,ee ax)).size=true:=T.fits (by rw[Y,B];have:=k.ok.few;rcases k.ok.msk with z|z|z<;>rw[z]at this⊢<;>omega)
   unfold setRelay;refine Np (Np (OO (s:={s with heap:=s.heap.update a (RN (eg es pp (gW prog w kx,ee ax)) t1)}) g1 rfl G ?_));simp only;rw[h5];rw[if_neg (by rw[Oo];rcases c with rfl|rfl<;>decide)];rw[r1];refine Np ?_;have step:∀(R:Array Ent×lp->a_->Prop) (s1:a_),R (ord.filterMap ((eg es pp (gW prog w kx,ee ax))[·]?),f) s1->
     d_ (eK prog w) A (if ((ord.filterMap ((eg es pp (gW prog w kx,ee ax))[·]?)).size !=(eg es pp (gW prog w kx,ee ax)).size)=c_
      then (do unsupported "internal:set-table-lost-an-element";aw (ord.filterMap ((eg es pp (gW prog w kx,ee ax))[·]?),f))else aw (ord.filterMap ((eg es pp (gW prog w kx,ee ax))[·]?),f)) R E s1:=λR s1 hR=>by
    rw[if_neg (by rw[r3];simp)];exact Nv hR
   refine step _ _ ?_;refine wpAny_storeSet_of (s:={s with heap:=s.heap.update a (RN (eg es pp (gW prog w kx,ee ax)) t1)}) g1 rfl ?_ (by rw[r3,Y,Oo];omega);have N:(ord.filterMap ((eg es pp (gW prog w kx,ee ax))[·]?)).toList=(ord.toList.filterMap ((L.take pp++(kx,ax)::L.drop pp)[·]?)).map (ent prog w):=by rw[Array.toList_filterMap,List.map_filterMap];refine lV λi _=>?_;rw[<-NY,X,NP]
   have U:(ord.toList.filterMap ((L.take pp++(kx,ax)::L.drop pp)[·]?)).Perm ((kx,ax)::L):=by
    refine(r2.filterMap _).trans ?_;have e1:(eg es pp (gW prog w kx,ee ax)).size=(L.take pp++(kx,ax)::L.drop pp).length:=by rw[<-Pe,X,Nt]
    rw[e1,List.filterMap_getElem?_range_length];exact W
   refine Nv (h _ _ _ _ _ _ _ ⟨yE g1 rfl,k.ex,rfl,r4,by rw[r6,F];exact k.pln,by rw[r5,y];exact k.led,N,I _ U⟩ (C.trans (OP _ a _)) (.inr ⟨Z,U⟩))
  ·simp only[hful,RS,eo,if_false];refine Nv ?_;refine h _ _ _ _ _ _ _ ⟨g1,k.ex,rfl,⟨T,?_⟩,by rw[F];exact k.pln,by rw[y];exact k.led,X,I _ W⟩ C (.inr ⟨Z,W⟩);unfold SetTable.tooFull SetTable.fill at hful;rw[T.siz,T.dum]at hful;have S:¬ (eg es pp (gW prog w kx,ee ax)).size*5 ≥ t1.mask*3:=by simpa using hful
   exact Nat.lt_of_not_ge S
end
theorem xr{h':fg}(x:k7 (n4 prog w) h k a)(e:∀o,h.get? a=ar o->h'.get? a=ar o):k7 (n4 prog w) h' k a:=
 let ⟨o,its,n,ho,r⟩:=x
 ⟨o,its,n,e o ho,r⟩
theorem SetAt.at{h':fg}(k:SetAt prog w h a o es ep t L)(e:∀o,h.get? a=ar o->h'.get? a=ar o):SetAt prog w h' a o es ep t L:=
 {k with get:=e o k.get}
structure Folded(kv L:List KA):Prop where
 nd:(L.map (·.1)).Nodup
 mem:∀k,k∈L.map (·.1)↔k∈kv.map (·.1)
 sub:∀p∈L,p∈kv
 len:L.length<=kv.length
theorem Folded.nil:Folded [] []:=⟨.nil,λ_=>.rfl,λ_ h=>h,Nu _⟩
theorem Folded.add(f:Folded kv L)(h:KI L p L'):Folded (kv++[p]) L':=by
 rcases h with⟨h1,rfl⟩|⟨h1,h2⟩
 ·refine⟨f.nd,λk=>?_,λq Z=>O9 _ (f.sub q Z),by have:=f.len;simp;omega⟩;rw[f.mem,OF,Oi];refine⟨.inl,λz=>z.elim id λz=>?_⟩;have:k=p.1:=by simpa using z
  rw[this];exact(f.mem _).mp h1
 ·have hm:=h2.map (λq:KA=>q.1);refine⟨(PM hm).mpr (Ow.mpr ⟨h1,f.nd⟩),λk=>?_,λq Z=>?_,by have:=f.len;rw[h2.length_eq];simp;omega⟩
  ·rw[hm.mem_iff,NI,NB,f.mem,OF,Oi];constructor
   ·rintro(rfl|z)
    ·exact .inr (by simp)
    ·exact .inl z
   ·rintro(z|z)
    ·exact .inr z
    ·exact .inl (by simpa using z)
  ·rcases NB.mp (h2.mem_iff.mp Z)with rfl|z
   ·exact NS _ (NV.mpr rfl)
   ·exact O9 _ (f.sub q z)
section
variable {prog:eb}{w:er}{A:g_}{R:T4->a_->Prop}{I:b_}{fp wr:List b_}{G:Array RT->Array RT->Prop}{n:Nat}{P:Nat->aC->Prop}{St:Nat->a_->Prop}
theorem Fb(W:WalksS prog w A.in1 I fp wr G n P St)(y:S∉fp)(Z:Nat->KA)(H:∀i v,P i v->v= .ref (Z i).2)(hn:n<=76)(f:A.in1.units<A')(C:∀i,i<n->(Z i).2∉S::wr):
  ∀(c i:Nat) (s:a_),n - i=c->i<=n->St i s->(∀j,j<n->k7 (n4 prog w) s.heap (Z j).1 (Z j).2)->∀o es ep t L,SetAt prog w s.heap S o es ep t L->Folded ((ey i).map Z) L->
   (∀s',Moved (S::wr) G s s'->∀o es ep t L,SetAt prog w s'.heap S o es ep t L->Folded ((ey n).map Z) L->R (.ok (.ret .none)) s')->
   K_ (eK prog w) A (.builtin "set.update.loop" ⟨[.ref S,.ref I],[]⟩) R s:=by
 have x:S∉wr:=λh=>y (W.sub _ h);have X:∀b∈wr,b∈S::wr:=λb E=>NF _ E;intro c
 induction c with
 |zero=>
  intro i s hc hi Q d o es ep t L u K l;obtain rfl:i=n:=by omega
  refine Pw F.entry_set_update_loop ?_;rw[Pa P0 _];show d_ _ A.in1 (L0 (.ref I)>>=_) _ _ s;refine Np (W.done s _ _ Q λs' hm=>?_);show d_ _ A.in1 (ret hY) _ _ s';exact Nv (l s' (hm.mono X) o es ep t L (u.at λN e=>hm.heap S N x e) K)
 | succ c ih=>
  intro i s hc hi Q d o es ep t L u K l;have Y:i<n:=by omega
  refine Pw F.entry_set_update_loop ?_;rw[Pa P0 _];show d_ _ A.in1 (L0 (.ref I)>>=_) _ _ s;refine Np (W.item i s _ _ Y Q λv s' hP B hm=>?_);cases H i v hP;have r:=u.at (h':=s'.heap) λN e=>hm.heap S N x e;have U:∀j,j<n->k7 (n4 prog w) s'.heap (Z j).1 (Z j).2:=λj O=>xr (d j O) λN e=>hm.heap _ N (λz=>C j O (X _ z)) e;show d_ _ A.in1 (J' [ee (Z i).2] (setAdd S (.ref (Z i).2))>>=_) _ _ s';refine Np (Ov ?_);unfold setAdd;refine Ov ?_;refine Np (wpAny_pyHash_tuple f (U i Y) ?_);have a6:L.length<=i:=by have:=K.len;simpa using this
  have k:xq prog w s'.heap L:=λp hp=>by obtain⟨j,O,rfl⟩:=N8.mp (K.sub p hp);exact U j (Qj (N1.mp O) Y)
  refine Iq (s:={s' with toks:=s'.toks+((Z i).1.length+1)}) f r k (U i Y) (by omega) λb h' N es' a8 t' a g T hA=>?_;have q:Folded ((ey (i+1)).map Z) a:=by rw[List.range_succ,OF];exact K.add hA
  refine Nv ⟨Rh P0 _,ih (i+1) _ (by omega) Y (W.frame _ s' _ _ B (Qq _ _) λb E o e=>?_) (λj O=>xr (U j O) λo e=>?_) _ _ _ _ _ g q λm J=>?_⟩
  ·rw[T.2 b (λh:b=S=>y (by rw[<-h];exact E))];exact e
  ·rw[T.2 _ (λh=>C j O (by rw[h];exact NM))];exact e
  ·refine l m (Moved.trans W.gtrans ((hm.mono X).then_heap (Qq _ _) λb o E e=>?_) J);rw[T.2 b (λh:b=S=>E (by rw[h];exact NM))];exact e
end
section
variable {prog:eb}{w:er}{A:g_}{E:aC->a_->Prop}{s:a_}
theorem vx:SD (.type "tuple") (.type "set")=aw false:=by rw[Qg];kernel_rfl
theorem t5:SD (.type "tuple") (.type "frozenset")=aw false:=by rw[Qg];kernel_rfl
def dO(led:Bool):Obj:={cls:=.type "set",dict:=none,data:=.set #[] 0 (.fresh 0 0 led)}
def g0(w:er):Bool:= !(w.params.followText "set-order")
def Src(h:fg)(x:b_)(items:Array aC):Prop:=h.IsList x items\/h.IsTuple x items
theorem Src.at{h':fg}(r:Src h x items)(e:∀o,h.get? x=ar o->h'.get? x=ar o):Src h' x items:=by
 rcases r with⟨o,ho,r⟩|⟨o,ho,r⟩
 ·exact .inl ⟨o,e o ho,r⟩
 ·exact .inr ⟨o,e o ho,r⟩
theorem Src.lt(r:Src h x items):x<h.objs.size:=by rcases r with⟨o,ho,_⟩|⟨o,ho,_⟩<;>exact Ny ho
theorem Cb(r:Src s.heap x items)
  (h:∀(ob:Obj) (St:Nat->fg->Prop),(∀Y:g_,Y.handled=none->Walks prog w Y s.heap.objs.size [s.heap.objs.size,x] [s.heap.objs.size] items.size (λi v=>items[i]? =ar v) St)->St 0 (s.heap.push ob)->
   Q (.ref s.heap.objs.size) {s with heap:=s.heap.push ob}):d_ (eK prog w) A (SW (.ref x)) Q E s:=by
 have Z:x≠s.heap.objs.size:=NL r.lt;rcases r with r|r
 ·refine Q0 r (h _ _ (λY X=>Walks.list X s.heap.objs.size x Z items) ⟨⟨_,NA _ rfl,rfl,rfl⟩,r.push _⟩)
 ·refine PU r (h _ _ (λY X=>Walks.tuple X s.heap.objs.size x Z items) ⟨⟨_,NA _ rfl,rfl,rfl⟩,?_⟩);obtain⟨o,W,q⟩:=r;exact⟨o,Nq _ W,q⟩
theorem MC(a:aC){Q1:aC->a_->Prop}(h:Q1 (.ref s.heap.objs.size) {s with heap:=s.heap.push (dO (g0 w))}):
  K_ (eK prog w) A (.call (.builtin "set.__new__") ⟨[.type "set",a],[]⟩) (wants Q1 E) s:=by
 refine codeAny_of_tree ?_;show d_ _ A.in1 (do RK "set.__new__" ⟨[.type "set",a],[]⟩;SX (.builtin "set.__new__" ⟨[.type "set",a],[]⟩)) _ _ s;refine Np (SN (F.newCall_set_1 a) (Nv ⟨Rh F.plain_set_new _,Pw F.entry_set_new ?_⟩));rw[Pa F.plain_set_new _];unfold Builtin.«set.__new__» Builtin.Frozenset.newClass;have Z:=sub_set_self;obtain⟨X,g,d,Y,os⟩:=s;dsimp only
 wp_walk
 refine PH (Nv ?_);dsimp only;simp only[newObj];exact Np (wpAny_alloc (Nv (Nv h)))
theorem Cc(r:Src s.heap x items):∃T,s.TypeIs (.ref x) T/\SD (.type T) (.type "set")=aw dr/\SD (.type T) (.type "frozenset")=aw dr/\(y7 T==y7 "dict")=false:=by
 rcases r with⟨o,ho,hc,_⟩|⟨o,ho,hc,_⟩
 ·exact⟨"list",⟨o,ho,hc⟩,F.sub_list_set,F.sub_list_frozenset,by decide⟩
 ·exact⟨"tuple",⟨o,ho,hc⟩,vx,t5,by decide⟩
set_option maxHeartbeats 8000000 in
theorem Ir(hh:A.handled=none)(f:A.in1.in1.in1.units<A')(r:Src s.heap x items)(X:Nat->KA)(U:∀(i:Nat) (v:aC),items[i]? =ar v->v= .ref (X i).2)(hn:items.size<=76)
  (q:∀j,j<items.size->k7 (n4 prog w) s.heap (X j).1 (X j).2)
  (h:∀(h':fg) (tk:Nat) o es ep t L,SetAt prog w h' s.heap.objs.size o es ep t L->Folded ((ey items.size).map X) L->(∀b o,b<s.heap.objs.size->s.heap.get? b=ar o->h'.get? b=ar o)->
   Q (.ref s.heap.objs.size) {s with heap:=h',toks:=tk}):d_ (eK prog w) A (call (.type "set") [.ref x]) Q E s:=by
 obtain⟨c,tl,y⟩:=F.called_set.mro;have H:=F.called_set.made;have m:=F.called_set.sub;refine Q3 (codeAny_of_tree ?_);show d_ _ _ (callAny (.type "set") _) _ _ _;refine Nv ⟨Code.quiet_builtin _ (by decide+kernel),Pw F.entry_type_call ?_⟩;rw[Around.under_plain (weight_type_call_type "set" [.ref x] []) rfl];have h1:=F.called_set.notType;have h2:=F.called_set.canCreate;have a8:=F.typeCall_set_1 (.ref x)
 repeat (any_goals (first|assumption|wp_step))
 refine Pq (MC (.ref x) (E:=E) (Q1:=λobj s1=>obj= .ref s.heap.objs.size/\s1={s with heap:=s.heap.push (dO (g0 w))}) ⟨rfl,rfl⟩) λrr s1 O=>?_;cases rr with
 |error e=>exact O
 | ok fl=>
  cases fl with
  | ret obj=>
   obtain⟨rfl,rfl⟩:=O;have B:(s.heap.push (dO (g0 w))).get? s.heap.objs.size=ar (dO (g0 w)):=NA _ rfl;have u:Sh {s with heap:=s.heap.push (dO (g0 w))} (.ref s.heap.objs.size) "set":=⟨_,B,rfl⟩;have a4:=F.called_set.init.lookup;have a3:=F.called_set.init.bind (.ref s.heap.objs.size)
   repeat (any_goals (first|assumption|wp_step))
   refine Pq (codeAny_call_builtin (R:=wants (λr s2=>r= .none/\Q (.ref s.heap.objs.size) s2) E) F.called_set.init.plain F.entry_set_init (check_set_init_1 u ?_)) λg s2 Y=>?_
   ·have n:Src (s.heap.push (dO (g0 w))) x items:=r.at λo e=>Nq _ e;obtain⟨Tx,k,b1,a9,hd⟩:=Cc (s:={s with heap:=s.heap.push (dO (g0 w))}) n;unfold Builtin.«set.__init__» noKeywords Builtin.Frozenset.updateFrom;generalize hPI:SW=PI;have a5:=u;unfold dO at B
    wp_walk
    subst hPI;refine Cb (s:={s with heap:=s.heap.push (dO (g0 w))}) n λz St W C=>?_;refine Np (wpAny_runValue ?_);have N:x<s.heap.objs.size:=r.lt;have Z:(s.heap.push (dO (g0 w))).objs.size=s.heap.objs.size+1:=OI _ _;have G:s.heap.objs.size∉[(s.heap.push (dO (g0 w))).objs.size,x]:=by rw[Z];simp only[gg,e_,or_false,not_or];exact⟨NL (Qp _),O3 N⟩
    have I:A.in1.in1.in1.handled=none:=by simp[hh]
    have up:∀b o,s.heap.get? b=ar o->((s.heap.push (dO (g0 w))).push z).get? b=ar o:=λb o e=>Nq _ (Nq _ e);have T:∀j,j<items.size->(X j).2<s.heap.objs.size:=λj S=>let ⟨_,_,_,e,_⟩:=q j S;Ny e;have S0:SetAt prog w ((s.heap.push (dO (g0 w))).push z) s.heap.objs.size (dO (g0 w)) #[] 0 (.fresh 0 0 (g0 w)) []:=
     ⟨Nq _ (NA _ rfl),⟨rfl,rfl,rfl⟩,rfl,B5 _,rfl,rfl,rfl,.nil⟩
    refine Fb ((W _ I).toS) G X U hn f (λj S=>?_) (items.size - 0) 0 _ rfl (NN _) C (λj S=>xr (q j S) λo e=>up _ o e) _ _ _ _ _ S0 .nil λs' hm o es ep t L P l=>?_
    ·rw[Z];have:=T j S;simp only[gg,e_,or_false,not_or];exact⟨NL this,NL (OX this)⟩
    ·obtain⟨h',g',d',K,J⟩:=s';have a:g'=s.gens:=hm.gens;have ed:d'=s.drawn:=hm.drawn;have d:J=s.os:=hm.os;subst a ed d;show d_ _ _ _ _ _ _;refine Nv ?_;show d_ _ _ (ret hY) _ _ _;refine Nv ⟨rfl,h h' K o es ep t L P l λb o p e=>?_⟩;refine hm.heap b o ?_ (up b o e);rw[Z];simp only[gg,e_,or_false,not_or];exact⟨NL p,NL (OX p)⟩
   ·cases g with
    |error e=>exact Y
    | ok fl2=>
     cases fl2 with
     |ret rv=>
      obtain⟨rfl,hq⟩:=Y
      repeat (any_goals (first|assumption|wp_step))
     |_=>exact Y.elim
  |_=>exact O.elim
end
theorem pQ{Z:Type}:∀{l:List Z} {i:Nat} {x:Z},l[i]? =ar x->l.Perm (x::l.eraseIdx i)
 |[],_,_,h=>by simp at h
 |y::l,0,x,h=>by simp at h;subst h;exact .refl _
 |y::l,i+1,x,h=>by
  have:=pQ (l:=l) (i:=i) (x:=x) (by simpa using h);rw[List.eraseIdx_cons_succ];exact(M_ y this).trans (.swap _ _ _)
theorem yF{W:Type}(Z:Nat->Nat):∀(fuel k:Nat) (left:List W) (out:Array W),left.length=fuel->(Su Z fuel k left out).toList.Perm (out.toList++left)
 |0,k,left,out,h=>by
  have:left=[]:=Ri.mp h;subst this;unfold Su;simp
 |fuel+1,k,left,out,h=>by
  unfold Su;have Y:Z k % left.length<left.length:=Q7 _ (by omega)
  have X:left[Z k % left.length]? =ar left[Z k % left.length]:=Nw Y;rw[X];simp only;refine(yF Z fuel (k+1) _ _ (by rw[QK Y];omega)).trans ?_;rw[Array.toList_push,NZ];exact List.Perm.append_left _ (pQ X).symm
theorem Ax{Y:Type}(Z:Nat->Nat)(xs:Array Y):(SF Z xs).toList.Perm xs.toList:=by
 have:=yF Z xs.size 0 xs.toList #[] (by simp)
 simpa [SF]using this
def jq(w:er)(a:b_)(ep:Nat)(es:Array Ent):Array Ent:=if w.params.followText "set-order"=c_ then SF (w.params.setOrder a ep) es else es
theorem sj(w:er)(a:b_)(ep:Nat)(es:Array Ent):(jq w a ep es).toList.Perm es.toList:=by
 unfold jq;split
 ·exact Ax _ _
 ·exact .refl _
theorem kc(w:er)(a:b_)(ep:Nat)(es:Array Ent):(jq w a ep es).size=es.size:=by have:=(sj w a ep es).length_eq;simpa using this
theorem d8:Slot "set_iterator" "__next__" "set_iterator.__next__":=
 .of (owner:="set_iterator") (n:="__next__") (by rw[Rv,Ql];kernel_rfl) (by decide+kernel) (by decide+kernel) (by decide+kernel)
  (by first|exact .inl (by decide+kernel)|exact .inr (by decide+kernel)) (by rw[Qg];kernel_rfl)
theorem kA:TQ table "set_iterator.__next__"=ar Builtin.«set_iterator.__next__»:=entryFor_of_fast (by kernel_rfl)
theorem lW(a:aC):T9 "set_iterator.__next__" ⟨[a],[]⟩:=by unfold T9;kernel_rfl
theorem pR:TQ table "set.__iter__"=ar Builtin.«frozenset.__iter__»:=
 entryFor_alias (id':="frozenset.__iter__") (by kernel_rfl) rfl (by decide+kernel) (by kernel_rfl)
section
variable {prog:eb}{w:er}{A:g_}{E:aC->a_->Prop}{s:a_}
def gd(w:er)(t:lp)(i:Nat):Nat:=if w.params.followText "set-order"=c_ then 0 else match i with
 |0=>0
 |i+1=>t.place.getD i 0+1
structure IterAt(w:er)(h:fg)(I a:b_)(t:lp)(sz ep i:Nat):Prop where
 ex:∃o,h.get? I=ar o/\o.cls= .type "set_iterator"/\o.data= .fields #[.int (gd w t i) 0,.int i 0,.ref a,.int sz 0,.int ep 0]
theorem IterAt.typeIs(k:IterAt w s.heap I a t sz ep i):s.TypeIs (.ref I) "set_iterator":=
 let ⟨o,ho,hc,_⟩:=k.ex
 ⟨o,ho,hc⟩
theorem yG(k:SetAt prog w s.heap a o es ep t L)(G:i<=es.size){Q:Option (aC×Nat)->a_->Prop}
  (h:Q (((jq w a ep es)[i]?).map λe=>(e.2,gd w t (i+1))) s):d_ (eK prog w) A (setNext a (gd w t i) i ep) Q E s:=by
 unfold setNext;refine Np (OO k.get k.dat k.fits ?_);simp only;unfold Td;refine Np (Np (PH (Nv ?_)));show d_ _ _ (if (w.params.followText "set-order")=c_ then _ else _) _ _ s;by_cases hw:w.params.followText "set-order"=c_
 ·rw[if_pos hw];simp only[bne_self_eq_false,eo,if_false];unfold setWalk;refine Np (Np (OO k.get k.dat k.fits ?_));simp only;unfold Td;refine Np (Np (PH (Nv ?_)));show d_ _ _ (if (w.params.followText "set-order")=c_ then _ else _) _ _ s;rw[if_pos hw];refine Np (PH (Nv ?_));refine Nv ?_;have e1:jq w a ep es=SF (w.params.setOrder a ep) es:=by unfold jq;rw[if_pos hw]
  have e2:∀j,gd w t j=0:=λj=>by unfold gd;rw[if_pos hw]
  rw[e1,e2]at h;rw[e2];exact h
 ·rw [if_neg hw];have P:(!t.plain && decide (es.size>1))=false:=by rw[k.pln];rfl
  have I:t.led=true:=by rw[k.led];simpa using hw
  have e1:jq w a ep es=es:=by unfold jq;rw[if_neg hw]
  have e2:∀j,gd w t j=match j with|0=>0|j+1=>t.place.getD j 0+1:=λj=>by unfold gd;rw[if_neg hw]
  have K:RZ t.place (gd w t i)=i:=by
   obtain⟨T,Y,W⟩:=pK k.ok.ris (gd w t i);cases i with
   | zero=>
    rw[e2]at T Y W⊢;simp only at T Y W⊢;rcases Nat.eq_zero_or_pos (RZ t.place 0)with z|z
    ·exact z
    ·have Z:0<t.place.size:=by omega
     have:=Y 0 _ z (ND Z);omega
   | succ i=>
    have X:i<t.place.size:=by rw[k.ok.siz];omega
    have S:t.place.getD i 0=t.place[i]:=by simp[Tc,X]
    rw[e2]at T Y W⊢;simp only[S]at T Y W⊢;have O:=ND X;rcases Qc (RZ t.place (t.place[i]+1)) (i+1)with l|l|l
    ·have:=W i _ (by omega) O;omega
    ·exact l
    ·have Z:i+1<t.place.size:=by omega
     have F:=Y (i+1) _ l (ND Z);have H:=k.ok.ris i (i+1) _ _ (by omega) O (ND Z);omega
  generalize hu:PySem.unsupported=U;show d_ _ _ (if (!t.plain && decide (es.size>1))=c_ then _ else _) _ _ s;rw[P];simp only[eo,if_false];have hm:∀R:Unit->a_->Prop,R () s->d_ (eK prog w) A (if (!t.led && !es.isEmpty)=c_ then unsupported "set:maker-not-led" else aw ()) R E s:=λR J=>by rw[I];simp only[EA,Bool.false_and,eo,if_false];exact Nv J
  refine Np (hm _ ?_);refine Nv ?_;rw[K];rw[e1,e2]at h;simp only at h;by_cases Z:i<es.size
  ·have N:i<t.place.size:=by rw[k.ok.siz];exact Z
   have S:t.place.getD i 0=t.place[i]:=by simp[Tc,N]
   rw[ND Z,S]at h;rw[ND Z,ND N];exact h
  ·rw[OL (by omega)]at h;rw[OL (by omega)];exact h
end
theorem Cd{Y W:Type}{f:Y->W}{l X:List W}(h:l.Perm X):∀L:List Y,X=L.map f->∃Z:List Y,Z.Perm L/\l=Z.map f:=by
 induction h with
 |nil=>intro L e;exact⟨[],by rw[List.map_eq_nil_iff.mp e.symm],rfl⟩
 | cons x _ ih=>
  intro L e;cases L with
  |nil=>cases e
  |cons y L=>
   rw[NI]at e;injection e with e1 e2;obtain⟨Z,p,q⟩:=ih L e2;exact⟨y::Z,p.cons y,by rw[q,e1];rfl⟩
 | swap x y l=>
  intro L e
  match L,e with
  |[],e=>cases e
  |[_],e=>rw[NI]at e;injection e with _ e;cases e
  |a::b::L,e=>
   rw[NI,NI]at e;injection e with e1 e2;injection e2 with e2 e3;exact⟨b::a::L,.swap _ _ _,by rw[e1,e2,e3];rfl⟩
 |trans _ _ ih1 ih2=>
  intro L e;obtain⟨L1,R,Q⟩:=ih2 L e;obtain⟨S,U,T⟩:=ih1 L1 Q;exact⟨S,U.trans R,T⟩
section
variable {prog:eb}{w:er}{A:g_}{E:aC->a_->Prop}{s:a_}
theorem sk{h:fg}{g:Array aC->Array aC}(Y:h.get? I=ar o)(Z:o.data= .fields fs):
  ∃o',(h.update I (EW g)).get? I=ar o'/\o'.cls=o.cls/\o'.data= .fields (g fs):=
 ⟨_,Oy _ Y (Px (OT Z _)),Rb ..,OT Z _⟩
theorem next_item{Q:Option aC->a_->Prop}(k:SetAt prog w s.heap a o es ep t L)(Z:IterAt w s.heap I a t es.size ep i)(R:I≠a)
  (T:(jq w a ep es)[i]? =ar e) (S:∀h',IterAt w h' I a t es.size ep (i+1)->s_ I s.heap h'->Q (ar e.2) {s with heap:=h'}):d_ (eK prog w) A (L0 (.ref I)) Q E s:=by
 obtain⟨J,X,P,hd⟩:=Z.ex;have Y:i<es.size:=by rw[<-kc w a ep es];exact(NR.mp T).1
 unfold L0;refine Np (P1 (wpAny_callSpecial?_slot (name:=j2 "__next__") Z.typeIs d8
  (Oz d8 Z.typeIs kA ?_ (lW _))))
 unfold Builtin.«set_iterator.__next__»;refine Np (m:=TR "__next__" 0 _) (Nv ?_);refine Np (wpAny_fieldsOf X hd ?_);simp only;refine Np (QD k.get k.dat k.fits ?_);rw[if_neg (by simp)];refine Np ?_;rw[OB,OB,OB];refine yG k (O2 Y) ?_;rw[T];simp only[F_];refine Np (Pl X hd (by simp) ?_);obtain⟨o1,g1,K,U⟩:=sk (g:=λW=>W.set! 0 (mv (gd w t (i+1):Nat))) X hd;refine Np (Pl (o:=o1) (s:={s with heap:=_}) g1 U (by simp) (Nv ⟨e.2,rfl,Nv (S _ ?_ ((OP ..).trans (OP ..)))⟩));obtain⟨o2,g2,O,N⟩:=sk (g:=λW=>W.set! 1 (mv ((i:Int)+1))) g1 U;refine⟨o2,g2,by rw[O,K];exact P,?_⟩;rw[N];simp[mv]
theorem next_end{Q:Option aC->a_->Prop}(X:A.handled=none)(k:SetAt prog w s.heap a o es ep t L)(Z:IterAt w s.heap I a t es.size ep es.size)
  (W:∀h',Heap.ExtBut I s.heap h'->Q none {s with heap:=h'}):d_ (eK prog w) A (L0 (.ref I)) Q E s:=by
 obtain⟨U,Y,S,hd⟩:=Z.ex;unfold L0;refine Np (P1 (wpAny_callSpecial?_slot (name:=j2 "__next__") Z.typeIs d8
  (Oz d8 Z.typeIs kA ?_ (lW _))))
 unfold Builtin.«set_iterator.__next__»;refine Np (m:=TR "__next__" 0 _) (Nv ?_);refine Np (wpAny_fieldsOf Y hd ?_);simp only;refine Np (QD k.get k.dat k.fits ?_);rw[if_neg (by simp)];refine Np ?_;rw[OB,OB,OB];refine yG k (Nu _) ?_;rw[OL (by rw[kc];exact Nu _)];simp only[Option.map_none];refine Np (Pl Y hd (by simp) ?_);show d_ _ _ (T_ (.type "StopIteration") []>>=_) _ _ _;refine Np ?_;simp only[T_,newTuple];refine Np (Og ?_ (by size_fits));refine Np (m:=O_ _ _) (SN (a:=hY) (by first|rfl|(simp only[O_];rfl)) ?_);refine Og ?_ (by size_fits);simp only[raiseNew];refine Np (wpAny_handled ?_);first|rw[show A.in1.handled=none from X]|rw[X]
 refine Np (Nv (wpAny_throw ?_));refine Np (PK (T:="StopIteration") (b:=c_) ⟨_,NA _ rfl,rfl⟩ QY ?_);exact Nv (W _ (((OP ..).extBut.push _).push _))
theorem IterAt.at{h':fg}(k:IterAt w h I a t sz ep i)(e:∀o,h.get? I=ar o->h'.get? I=ar o):IterAt w h' I a t sz ep i:=
 let ⟨o,ho,r⟩:=k.ex
 ⟨⟨o,e o ho,r⟩⟩
theorem lX:Slot "set_iterator" "__iter__" "set_iterator.__iter__":=
 .of (owner:="set_iterator") (n:="__iter__") (by rw[Rv,Ql];kernel_rfl) (by decide+kernel) (by decide+kernel) (by decide+kernel)
  (by first|exact .inl (by decide+kernel)|exact .inr (by decide+kernel)) (by rw[Qg];kernel_rfl)
theorem rB:TQ table "set_iterator.__iter__"=ar Builtin.«dict_keyiterator.__iter__»:=
 entryFor_alias (id':="dict_keyiterator.__iter__") (by kernel_rfl) rfl (by decide+kernel) (by kernel_rfl)
theorem t6(a:aC):T9 "set_iterator.__iter__" ⟨[a],[]⟩:=by unfold T9;kernel_rfl
theorem Ce{Q:aC->a_->Prop}(k:SetAt prog w s.heap a o es ep t L)
  (S:∀ob,IterAt w (s.heap.push ob) s.heap.objs.size a t es.size ep 0->Q (.ref s.heap.objs.size) {s with heap:=s.heap.push ob}):d_ (eK prog w) A (SW (.ref a)) Q E s:=by
 have U:s.TypeIs (.ref a) "set":=⟨o,k.get,k.ex.1⟩;refine wpAny_pyIter_slot U F.slot_set_iter (Oz F.slot_set_iter U pR ?_ (F.args_set_iter_1 _));unfold Builtin.«frozenset.__iter__» Builtin.Frozenset.slot0;refine Np (Np (m:=TR "__iter__" 0 _) (Nv ?_));refine Nv ?_;unfold Builtin.Frozenset.sizeOf;refine Np (Np (QD k.get k.dat k.fits (Nv ?_)));unfold setDrawn;refine Np (Np (OO k.get k.dat k.fits ?_));simp only;unfold Td;refine Np (Np (PH (Nv ?_)));refine Nv ?_;have W:(!(w.params.followText "set-order") && (!t.plain && decide (es.size>1)))=false:=by rw[k.pln];simp
 have Z:∀(X Y:Sem Fin) (R:Fin->a_->Prop),d_ (eK prog w) A.in1 Y R E s->d_ (eK prog w) A.in1 (if (!(w.params.followText "set-order") && (!t.plain && decide (es.size>1)))=c_ then X else Y) R E s:=λX Y R T=>by rw[W];simp only[eo,if_false];exact T
 refine Z _ _ _ ?_;refine Np (Nv ?_);refine Np (wpAny_setEpoch_of k.get k.dat k.fits ?_);refine Np (Og (Nv ⟨_,rfl,"set_iterator",_,⟨_,NA _ rfl,rfl⟩,d8.lookup,S _ ⟨⟨_,NA _ rfl,rfl,?_⟩⟩⟩));have P:gd w t 0=0:=by unfold gd;split<;>rfl
 rw[P];rfl
theorem Ay{es:Array Ent}(N:A.handled=none)(U:I≠a):Walks prog w A I [I,a] [I] es.size (λi v=>∃e,(jq w a ep es)[i]? =ar e/\v=e.2)
  (λi h=>SetAt prog w h a o es ep t L/\IterAt w h I a t es.size ep i) where
 sub:=λb Y=>by simp at Y;simp[Y]
 frame:=λi h h' st P=>⟨st.1.at λZ e=>P a (by simp) Z e,st.2.at λZ e=>P I (by simp) Z e⟩
 item:=λi s Q E O st X=>by
  have R:i<(jq w a ep es).size:=by rw[kc];exact O
  have he:=ND R;exact next_item st.1 st.2 U he λh' T W=>X _ h' s.toks ⟨_,he,rfl⟩ ⟨st.1.at λZ e=>W.extBut a Z (j' U) e,T⟩ λb Z Y e=>W.extBut b Z (λz=>Y (by simp[z])) e
 done:=λs Q E st X=>next_end N st.1 st.2 λh' S=>X h' s.toks λb Z Y e=>S b Z (λz=>Y (by simp[z])) e
 self:=λi s Q E st X=>by refine wpAny_pyIter_slot st.2.typeIs lX (Oz lX st.2.typeIs rB ?_ (t6 _));show d_ _ _ (ret (.ref I)) _ _ s;exact Nv ⟨_,rfl,"set_iterator",_,st.2.typeIs,d8.lookup,X⟩
theorem vy{Q:List aC->a_->Prop}(j:A.handled=none)(k:SetAt prog w s.heap a o es ep t L)(g:es.size<=76)
  (f:∀(h':fg) (tk:Nat) (R:List KA),R.Perm L->(∀b o,s.heap.get? b=ar o->h'.get? b=ar o)->Q (R.map λp=>ee p.2) {s with heap:=h',toks:=tk}):
  d_ (eK prog w) A (Uh (.ref a)) Q E s:=by
 have Y:a<s.heap.objs.size:=Ny k.get;unfold Uh;refine Np (wpAny_runValue (Pw F.entry_proto_collect ?_));rw[Pa F.plain_proto_collect _];show d_ _ A.in1 (Ug []>>=λl=>SX (.builtin "list.__iadd__" ⟨[l,.ref a],[]⟩)) _ _ s;refine Np (Og ?_);refine Nv ⟨Rh F.plain_list_iadd _,Pw F.entry_list_iadd ?_⟩;rw[Pa F.plain_list_iadd _];have k1:SetAt prog w (s.heap.push {cls:=.type "list",data:=.seq ([]:List aC).toArray}) a o es ep t L:=k.at λZ e=>Nq _ e;have C:(s.heap.push {cls:=.type "list",data:=.seq ([]:List aC).toArray}).get? s.heap.objs.size=ar {cls:=.type "list",data:=.seq ([]:List aC).toArray}:=NA _ rfl;have n:Sh {s with heap:=s.heap.push {cls:=.type "list",data:=.seq ([]:List aC).toArray}} (.ref a) "set":=⟨o,k1.get,k1.ex.1⟩;have T:Builtin.List.listSameRef (.ref s.heap.objs.size) (.ref a)=false:=by simp[Builtin.List.listSameRef,Nat.ne_of_gt Y]
 show d_ _ A.in1 (Builtin.List.listExtendWith (.ref s.heap.objs.size) (.ref a) (.ref s.heap.objs.size)) _ _ _;unfold Builtin.List.listExtendWith;refine Np (Qh n ?_);rw[if_neg (by rw[T];decide)];refine Np (Ce (s:={s with heap:=s.heap.push {cls:=.type "list",data:=.seq ([]:List aC).toArray}}) k1 λP hit=>?_);refine Np (Ov ?_);have S:Sh {s with heap:=(s.heap.push {cls:=.type "list",data:=.seq ([]:List aC).toArray}).push P} (.ref a) "set":=⟨o,Nq _ k1.get,k1.ex.1⟩;unfold Builtin.List.listLengthHint;refine Np (wpAny_specialOf S F.slot_set_len.lookup ?_);generalize gc:("set.__len__":String)=id0
 wp_delta
 rw[show splitId id0=ar ("set","__len__")from by subst gc;decide+kernel];subst gc;refine Np (PK (b:=c_) S sub_set_self ?_);rw[if_neg (by decide)];rw[if_pos (by decide+kernel)];refine Np (Qh S ?_);refine Nv ?_;rw[if_pos (by decide+kernel)];refine Np (QC ?_);generalize hg:(s.heap.push {cls:=.type "list",data:=.seq ([]:List aC).toArray}).objs.size=I at hit;have J:I=s.heap.objs.size+1:=by rw[<-hg];exact OI _ _
 have y:I≠a:=by rw[J];exact O3 (OX Y)
 have O:I≠s.heap.objs.size:=by rw[J];exact Nat.succ_ne_self _
 have h:s.heap.objs.size∉[I,a]:=by simp only[gg,e_,or_false,not_or];exact⟨j' O,O3 Y⟩
 have K:((s.heap.push {cls:=.type "list",data:=.seq ([]:List aC).toArray}).push P).get? s.heap.objs.size=ar {cls:=.type "list",data:=.seq ([]:List aC).toArray}:=Nq _ C;refine Np ?_;show d_ _ A.in1 (updateSeq s.heap.objs.size (·.push .none)>>=λ_=>updateSeq s.heap.objs.size (·.pop)) _ _ _;refine Np (wpAny_updateSeq K rfl ?_);have N:=Oy (mh (·.push hY)) K rfl;refine wpAny_updateSeq N rfl ?_;have x:=Oy (mh (·.pop)) N rfl;have U:∀b Z,b≠s.heap.objs.size->((s.heap.push {cls:=.type "list",data:=.seq ([]:List aC).toArray}).push P).get? b=ar Z->
   ((((s.heap.push {cls:=.type "list",data:=.seq ([]:List aC).toArray}).push P).update s.heap.objs.size (mh (·.push hY))).update s.heap.objs.size (mh (·.pop))).get? b=ar Z:=
  λb Z v e=>(Oa _ _ (j' v)).trans ((Oa _ _ (j' v)).trans e)
 have k2:=(k1.at (h':=(s.heap.push {cls:=.type "list",data:=.seq ([]:List aC).toArray}).push P) λZ e=>Nq _ e);have H:A.in1.handled=none:=by simp[j]
 have W:=Ay (prog:=prog) (w:=w) (A:=A.in1) (I:=I) (a:=a) (o:=o) (es:=es) (ep:=ep) (t:=t) (L:=L) H y;refine Nv ⟨Rh F.plain_extend_loop _,?_⟩;refine codeAny_extend_loopS W.toS (by rw[Oo];omega) _ h _ es.size 0 _ _ _ rfl (NN _) ⟨k2.at λZ e=>U a Z (NL Y) e,hit.at λZ e=>U I Z O e⟩ x (ItemsOf.nil _) λs' acc c hm G X=>?_;show d_ _ A (load s.heap.objs.size>>=_) _ _ s';refine Np (wpAny_load G ?_);refine Nv ?_;obtain⟨h',g',d',B,z⟩:=s';have q:g'=s.gens:=hm.gens;have d:d'=s.drawn:=hm.drawn;have r:z=s.os:=hm.os;subst q d r;obtain⟨R,m,u⟩:=Cd (sj w a ep es) L k.ents;have he:acc.toList=R.map λp=>ee p.2:=by
  have e1:acc.toList=(jq w a ep es).toList.map (·.2):=by
   refine Qe λi=>?_;rw[NY,NP,NY];by_cases hi:i<acc.size
   ·obtain⟨e,e1,e2⟩:=X.2 i _ (ND hi);rw[ND hi,e2,e1];rfl
   ·rw[OL (by omega),OL (by rw[kc, <-X.1];omega)];rfl
  rw[e1,u,N0];rfl
 rw[he];refine f h' B R m λb Z e=>hm.heap b Z ?_ (U b Z (NL (Ny e)) (Nq _ (Nq _ e)));simp only[gg,e_,or_false,not_or];exact⟨NL (Ny e),by rw[J];exact NL (OX (Ny e))⟩
end
end S4
namespace S4
open PySem PySem.Spec PySem.W PyProof.Rows L2 S3
section
variable {prog:eb}{w:er}{A:g_}{E:aC->a_->Prop}{s:a_}
theorem xt{vs:List aC}{P:PySem.Fin->a_->Prop}(W:s.heap.get? a=ar (x' "list" vs.toArray n))(O:vs.length<2)
  (h:∀h' c,h'.get? a=ar (x' "list" vs.toArray c)->(∀b o,b≠a->s.heap.get? b=ar o->h'.get? b=ar o)->P (.done (.ret .none)) {s with heap:=h'}):
  d_ (eK prog w) A (Builtin.«list.sort» ⟨[.ref a],[]⟩) P E s:=by
 have Q:a<s.heap.objs.size:=Ny W;obtain⟨e1,X⟩:∃e1,(s.heap.update a (mh λ_=>(#[]:Array aC))).get? a=ar (x' "list" #[] e1):=⟨_,get?_update_seq W λ_=> #[]⟩;have Z:(((s.heap.update a (mh λ_=>(#[]:Array aC))).push (x' "tuple" vs.toArray 0)).push (x' "list" #[] 0)).get? a=ar (x' "list" #[] e1):=Nq _ (Nq _ X);rw[list_sort_plain];refine Np (listItems_at W rfl ?_);refine Np (listUpdate_at W rfl ?_ (by rw[NG,Oo];omega) (NN _));refine Np (seqEpoch_at X rfl ?_);refine Np (wpAny_newTuple ?_ (by show vs.length<=_;rw[Oo];omega));refine Np (wpAny_newList ?_ (NN _));refine Ov ?_;show d_ (eK prog w) A _ P E {s with heap:=((s.heap.update a (mh λ_=>(#[]:Array aC))).push (x' "tuple" vs.toArray 0)).push (x' "list" #[] 0)};dsimp only;have Y:vs.toArray.size<2:=by rw[NG];omega
 rw[if_pos Y,if_pos Y];refine Np (Nv ?_);rw[StateT.run_pure];refine Np (Nv ?_);dsimp only;refine Np (seqEpoch_at Z rfl ?_);have R:(arrOf (SortSt.mk' general' (vs.toArray.zip vs.toArray) #[] 7 none)).map (·.2)=vs.toArray:=by show(vs.toArray.zip vs.toArray).map (·.2)=vs.toArray;rw[Array.map_snd_zip (Nu _)]
 rw[R];refine Np (listUpdate_at Z rfl ?_ (NN _) (by rw[NG,Oo];omega));obtain⟨U,T⟩:∃U,((((s.heap.update a (mh λ_=>(#[]:Array aC))).push (x' "tuple" vs.toArray 0)).push (x' "list" #[] 0)).update a (mh λ_=>vs.toArray)).get? a=ar (x' "list" vs.toArray U):=⟨_,get?_update_seq Z λ_=>vs.toArray⟩;simp only[bne_self_eq_false,eo,if_false];refine Nv (h _ U T λb o S e=>?_);rw[QE _ _ _ _ S];refine Nq _ (Nq _ ?_);rw[QE _ _ _ _ S];exact e
end
section
variable {X:Cx}
structure TRow(H:Hp)(vs:List V)(nss:List (List Int)):Prop where
 len:vs.length=nss.length
 at':∀i,i<vs.length->∃a,vs[i]? =ar (.ref a)/\H a=ar (.tup ((nss.getD i []).map V.int))
 ne:∀i,i<vs.length->0<(nss.getD i []).length
def gF(nss:List (List Int))(q:List Nat):Prop:=q.Perm (ey nss.length)/\∀i j,i<=j->j<nss.length->HT.lexLt (nss.getD (q.getD j 0) []) (nss.getD (q.getD i 0) [])=dr
theorem jr{H:Hp}{Q:VK}(I:L2.Inv X pins σ H s)(Pv:List aC->Prop)
  (hc:∀(R:List aC->a_->Prop) (E':aC->a_->Prop),(∀vs Y O,Pv vs->(∀b o,s.heap.get? b=ar o->Y.get? b=ar o)->R vs {s with heap:=Y,toks:=O})->d_ (eK X.prog X.w) X.A.in1 (Uh arg) R E' s)
  (d:∀us,Pv us->∃(vs:List V) (Z:List (List Int)),bj vs us/\TRow H vs Z/\vs.length<64/\∀q,gF Z q->∀l,H l=none->Q (.ref l) (upd H l (.lst (q.map λi=>vs.getD i .non)))):
  d_ (eK X.prog X.w) X.A (call (.builtin "sorted") [arg]) (EP X pins σ Q) X.xe s:=by
 refine Calls.call_function_entry kind_sorted plain_sorted entry_sorted (args_sorted1 _) ?_;unfold Builtin.«sorted»;refine Np (m:=checkCount "sorted" 1 1 _) (Nv ?_);refine Np (hc _ _ λits Y O hP keep=>?_);obtain⟨vs,Z,rv,T0,d0,q⟩:=d its hP;have b5:=rv.length;have N:L2.Inv X pins σ H {s with heap:=Y,toks:=O}:=I.kept keep;obtain⟨m,F⟩:=N.fr;refine Np (wpAny_newList ?_ (by rw[Oo];omega));have K:(Y.push (x' "list" its.toArray 0)).get? Y.objs.size=ar (x' "list" its.toArray 0):=NA _ rfl;have up:∀b o,Y.get? b=ar o->(Y.push (x' "list" its.toArray 0)).get? b=ar o:=λb o e=>Nq _ e;have nd:Y.get? Y.objs.size=none:=OU (Nu _);have hL:X.env.locals<Y.objs.size:=F.ns.lt;have hH:H Y.objs.size=none:=N.hok.fresh (Nu _);have at':∀i,i<its.length->∃a,its[i]? =ar (.ref a)/\its.getD i hY= .ref a/\H a=ar (.tup ((Z.getD i []).map V.int)):=λi U=>by obtain⟨a,e1,e2⟩:=T0.at' i (by omega);obtain⟨u,hu,ru⟩:=rv.get e1;cases (show u=ee a from ru);exact⟨a,hu,by rw[NC,hu];rfl,e2⟩
 have b6:∀l:List Nat,(∀x∈l,x<its.length)->bj (l.map λi=>vs.getD i .non) (l.map λi=>its.getD i hY):=by
  intro l
  induction l with
  |nil=>intro _;exact .nil
  |cons x l ih=>
   intro hx;refine .cons ?_ (ih λy hy=>hx y (NF _ hy));have E:x<vs.length:=by have:=hx x NM;omega
   obtain⟨u,hu,ru⟩:=rv.get (Nw E);show L2.RelV (vs.getD x .non) (its.getD x hY);rw[NC,NC,hu,Nw E];exact ru
 show d_ _ _ _ _ _ {s with heap:=Y.push (x' "list" its.toArray 0),toks:=O};refine Np (Ov (Oz slot_list_sort ⟨_,K,rfl⟩ entry_list_sort ?body (args_list_sort _)))
 case body=>
  by_cases J:its.length<2
  ·refine xt (s:={s with heap:=Y.push (x' "list" its.toArray 0),toks:=O}) K J λh' c g1 g2=>?_;refine⟨_,rfl,Nv ⟨_,rfl,?_⟩⟩;have I2:L2.Inv X pins σ (upd H Y.objs.size (.lst vs)) {s with heap:=h',toks:=O}:=N.laid (λb o e=>g2 b o (NL (Ny e)) (up b o e)) (Nu _) ⟨by rw[Oo];omega,its,c,rv,g1⟩;refine⟨.ref Y.objs.size,_,I2,rfl,?_⟩;have:=q (ey Z.length) ⟨.refl _,λi j G hj=>?_⟩ _ hH
   ·have e:(ey Z.length).map (λi=>vs.getD i .non)=vs:=by
     refine Qe λi=>?_;rw[NP, <-T0.len];by_cases U:i<vs.length
     ·rw[PL U,Nw U];simp[oo,U]
     ·rw[Oj (by simpa using U),Oj (by omega)];rfl
    rw[e]at this;exact this
   ·have:i=j:=by have:=T0.len;omega
    subst this;exact kb _
  ·have a8:=T0.ne;refine kat_list_sort (s:={s with heap:=Y.push (x' "list" its.toArray 0),toks:=O}) (F.kept up) (News.grown (oO (g:=X.base) (h:=Y) (L:=X.env.locals)) up) K (O3 hL) (OU (Nz F.above (O2 hL)))
    (λp hp=>NL (Ny (oO p hp).1)) (by omega) (by omega) λe1 h' F' N'=>?_
   have S:∀J:fg,Fr X.base X.env.locals J m->News X.base X.env.locals J (ll X.base Y X.env.locals)->∀b o,b≠X.env.locals->Y.get? b=ar o->J.get? b=ar o:=λJ F2 N2 b o hb e=>by
    cases z:X.base.get? b with
    |some o'=>
     have:=N.bk b o' z;rw[show Y.get? b=ar o' from this]at e;cases e;exact F2.keep b _ z
    |none=>exact(N2 (b,o) (uU hb z e)).1
   have kp:=S h' F' λz P=>N' z (NF _ P);have T:Tups Y its Z:=⟨by have:=T0.len;omega,λi U=>by obtain⟨a,_,e1,e2⟩:=at' i U;obtain⟨_,ws,f,o,ho,b1,n,hd⟩:=(show bh X.prog X.w H Y a (.tup ((Z.getD i []).map V.int))from N.hok a _ e2);refine⟨a,o,ws.toArray,n,e1,ho,b1,hd,by simpa using Q5 f,?_⟩;rw[NG, <-f.length,Nt];exact a8 i (by omega)⟩
   have T':Tups h' its Z:=T.keep λi a o U ea ho=>by obtain⟨a',_,e1,e2⟩:=at' i U;rw[ea]at e1;cases e1;refine kp a o (λz=>?_) ho;rw[z,N.free]at e2;cases e2
   obtain⟨fs,k1,k2,k3⟩:=pG (h:=h') (vs:=its) λv d=>by
    obtain⟨i,U,ei⟩:=List.mem_iff_getElem.mp d;obtain⟨a,o,us,n,f1,f2,f3,f4,f5,f6⟩:=T'.get i U;have ev:v= .ref a:=by rw[NC,Nw U,ei]at f1;exact f1
    generalize Z.getD i []=ns at f5;cases hus:us.toList with
    |nil=>
     have:us.size=0:=by rw[<-Pe,hus];rfl
     omega
    |cons x r'=>
     rw[hus]at f5;cases f5 with
     |cons n' t' _=>exact⟨a,o,us,n,n',t',ev,f2,f3,f4,by rw[<-NY,hus];rfl⟩
   refine kat_kind k1 (by omega) (T:=.type "int") (λv d=>by obtain⟨i,t,rfl⟩:=k3 v d;exact Looks.of_pure rfl) rfl ?_;refine BA (n:=its.length) (R:=In its.length) (b:=λi j=>HT.lexLt (Z.getD i []) (Z.getD j [])) (λi j C U hj hC=>T'.ask U hj hC) (u6 (by omega)) ?_;obtain⟨s1,s2⟩:=EO (n:=its.length) (b:=λi j=>HT.lexLt (Z.getD i []) (Z.getD j [])) (by omega) (λi _=>kb _) (λi j k _ _ _=>tW) (λi j k _ _ _=>tX);generalize bo (λi j=>HT.lexLt (Z.getD i []) (Z.getD j [])) (y3 its.length)=pp at s1 s2;have W:pp.toList.Perm (ey its.length):=by simpa using Array.Perm.toList s1
   refine KasFin.intro F' N' (.head λz P=>NL (Ny (oO z P).1)) λa6 c' B r=>?_;have b0:=S a6 B λz P=>r z (NF _ P);obtain⟨g1,g2,g3⟩:=r _ NM;have c1:∀x∈pp.toList,x<its.length:=λx hx=>N1.mp (W.mem_iff.mp hx);have a9:(pp.toList.map λi=>vs.getD i .non).length<=sizeLine:=by rw[Nt,W.length_eq,OD,Oo];omega
   have I2:=xn N F B b0 nd g1 (b6 pp.toList c1) a9;refine⟨_,rfl,Nv ⟨_,rfl,.ref Y.objs.size,_,I2,rfl,q pp.toList ⟨by rw[<-T0.len,b5];exact W,λi j G hj=>?_⟩ _ hH⟩⟩;have:=s2 i j G (by have:=T0.len;omega);rw[N7,N7]at this;rw[NC (l:=pp.toList),NC (l:=pp.toList),NY,NY];exact this
end
end S4
namespace S3
open PySem PySem.Spec PySem.W PyProof.Rows L2 S4
def tupI(ns:List Int):D:=.tup (ns.map D.int)
def rowsOf:List D->Option (List (List Int))
 |[]=>ar []
 | .tup ds::r=>match intsOf ds,rowsOf r with
  |some ns,ar nss=>ar (ns::nss)
  |_,_=>none
 |_=>none
theorem t7:∀{a b:List Int},HT.lexLt a b=dr->HT.lexLt b a=dr->a=b
 |[],[],_,_=>rfl
 |[],_::_,h,_=>by cases h
 |_::_,[],_,h=>by cases h
 | x::a,y::b,h1,h2=>by
  rw[HT.lexLt_cons]at h1 h2;by_cases e:x=y
  ·subst e;rw[if_pos rfl]at h1 h2;rw[t7 h1 h2]
  ·rw[if_neg e]at h1;rw[if_neg (j' e)]at h2;have:=of_decide_eq_false h1;have:=of_decide_eq_false h2;omega
abbrev En(a b:List Int):Prop:=HT.lexLt b a=dr
def xu(x:List Int):List (List Int)->List (List Int)
 |[]=>[x]
 |y::r=>if HT.lexLt y x=c_ then y::xu x r else x::y::r
def iR:List (List Int)->List (List Int)
 |[]=>[]
 |x::r=>xu x (iR r)
theorem mT(x:List Int):∀l,(xu x l).Perm (x::l)
 |[]=>.refl _
 |y::r=>by
  unfold xu;split
  ·exact((mT x r).cons y).trans (.swap _ _ _)
  ·exact .refl _
theorem dD:∀l,(iR l).Perm l
 |[]=>.refl _
 |x::r=>(mT x _).trans ((dD r).cons x)
theorem Az(Y:En a b)(Z:En b c):En a c:=by
 cases q:HT.lexLt c a with
 |false=>exact q
 |true=>
  rcases tX (b:=b) q with z|z
  ·rw[show HT.lexLt c b=dr from Z]at z;cases z
  ·rw[show HT.lexLt b a=dr from Y]at z;cases z
theorem lY(h:HT.lexLt a b=c_):HT.lexLt b a=false:=by
 cases q:HT.lexLt b a with
 |false=>rfl
 |true=>
  have:=tW h q;rw[kb]at this;cases this
theorem nJ(x:List Int):∀{l:List (List Int)},l.Pairwise En->(xu x l).Pairwise En
 |[],_=>by simp[xu]
 | y::r,h=>by
  obtain⟨Y,W⟩:=On.mp h;unfold xu;split
  ·next c=>
   refine On.mpr ⟨λz Z=>?_,nJ x W⟩;rcases NB.mp ((mT x r).mem_iff.mp Z)with rfl|Z
   ·exact lY c
   ·exact Y z Z
  ·next c=>
   have X:En x y:=Q9.mpr c;refine On.mpr ⟨λz Z=>?_,h⟩;rcases NB.mp Z with rfl|Z
   ·exact X
   ·exact Az X (Y z Z)
theorem d9:∀l,(iR l).Pairwise En
 |[]=>.nil
 |x::r=>nJ x (d9 r)
theorem kd{l:List (List Int)}(h:l.Perm l')(Z:l.Pairwise En)(Y:l'.Pairwise En):l=l':=
 List.Perm.eq_of_pairwise (le:=En) (λa b _ _ x y=>t7 y x) Z Y h
theorem pS(h:gF nss q):q.map (λi=>nss.getD i [])=iR nss:=by
 have hlen:q.length=nss.length:=by simpa using h.1.length_eq
 have e:(ey nss.length).map (λi=>nss.getD i [])=nss:=by
  refine Qe λi=>?_;rw[NP];by_cases Z:i<nss.length
  ·rw[PL Z,Nw Z];simp[oo,Z]
  ·rw[Oj (by simpa using Z),Oj (by omega)];rfl
 have W:(q.map (λi=>nss.getD i [])).Perm nss:=by have:=h.1.map (λi=>nss.getD i []);rw[e]at this;exact this
 refine kd (W.trans (dD nss).symm) ?_ (d9 _);rw[QX];intro i j Z X Y;rw[Nt]at Z X;rw[List.getElem_map,List.getElem_map];have:=h.2 i j (O2 Y) (by omega);rw[NC (l:=q),NC (l:=q),Nw Z,Nw X]at this;exact this
def fI:List (List Int)->List (List Int)
 |[]=>[]
 |x::r=>if x∈fI r then fI r else x::fI r
theorem iS:∀{l:List (List Int)},y∈fI l↔y∈l
 |[]=>.rfl
 | x::r=>by
  unfold fI;split
  ·next h=>
   rw[iS,NB];refine⟨.inr,λz=>z.elim (λz=>?_) id⟩;rw[z];exact iS.mp h
  ·rw[NB,NB,iS]
theorem lZ:∀l:List (List Int),(fI l).Nodup
 |[]=>.nil
 |x::r=>by
  unfold fI;split
  ·exact lZ r
  ·next h=>exact Ow.mpr ⟨h,lZ r⟩
def eZ(l:List (List Int)):List (List Int):=iR (fI l)
theorem Cf(f:Folded kv L):iR (L.map (·.1))=eZ (kv.map (·.1)):=by
 unfold eZ;have Z:(L.map (·.1)).Perm (fI (kv.map (·.1))):=(QL f.nd (lZ _)).mpr λa=>by rw[f.mem,iS]
 exact kd ((dD _).trans (Z.trans (dD _).symm)) (d9 _) (d9 _)
theorem _root_.S4.Folded.perm{Z:List KA}(f:Folded kv L)(h:Z.Perm L):Folded kv Z:=
 ⟨(PM (h.map (λp:KA=>p.1))).mpr f.nd,λk=>by rw[(h.map (λp:KA=>p.1)).mem_iff];exact f.mem k,λp Y=>f.sub p (h.mem_iff.mp Y),by rw[h.length_eq];exact f.len⟩
section
variable {K:dt}{ι:List b_}{H:Hp}
theorem pT:∀{ds:List D} {vs:List V} {nss:List (List Int)},RelDs K ι H ds vs->rowsOf ds=ar nss->vs.length=nss.length/\∀i,i<vs.length->∃a,vs[i]? =ar (.ref a)/\H a=ar (.tup ((nss.getD i []).map V.int))
 |[],vs,nss,h,e=>by
  cases e;rw[h.nil_inv];exact⟨rfl,λi Z=>absurd Z (Rr _)⟩
 | .tup ds::r,vs,nss,h,e=>by
  obtain⟨v,ws,rfl,X,Y⟩:=h.cons_inv;unfold rowsOf at e;cases q:intsOf ds with
  |none=>rw[q]at e;cases e
  | some ns=>
   rw[q]at e;cases q2:rowsOf r with
   |none=>rw[q2]at e;cases e
   | some nss'=>
    rw[q2]at e;cases e;obtain⟨U,S⟩:=pT Y q2;obtain⟨a,us,rfl,g1,g2⟩:=X.tup_inv;refine⟨by simp[U],λi Z=>?_⟩;cases i with
    |zero=>
     refine⟨a,rfl,?_⟩;rw[gD g2 q]at g1;simpa using g1
    |succ i=>
     obtain⟨T,e1,e2⟩:=S i (by simpa using Z);exact⟨T,by simpa using e1,by simpa using e2⟩
 | .non::_,_,_,_,e=>by cases e
 | .bl _::_,_,_,_,e=>by cases e
 | .int _::_,_,_,_,e=>by cases e
 | .str _::_,_,_,_,e=>by cases e
 | .lst _::_,_,_,_,e=>by cases e
 | .ro _::_,_,_,_,e=>by cases e
 | .fz _::_,_,_,_,e=>by cases e
 | .emp::_,_,_,_,e=>by cases e
theorem sm:∀ns:List Int,RelDs K ι H (ns.map D.int) (ns.map V.int)
 |[]=>.nil
 |n::r=>.cons (.int n) (sm r)
theorem pU{vs:List V}{Z:List (List Int)}(h:∀i,i<vs.length->∃a,vs[i]? =ar (.ref a)/\H a=ar (.tup ((Z.getD i []).map V.int))):
  ∀q:List Nat,(∀i∈q,i<vs.length)->RelDs K ι H ((q.map λi=>Z.getD i []).map tupI) (q.map λi=>vs.getD i .non)
 |[],_=>.nil
 |i::q,hq=>by
  obtain⟨a,e1,e2⟩:=h i (hq i NM);refine .cons ?_ (pU h q λj X=>hq j (NF _ X));show RelD K ι H (tupI (Z.getD i [])) (vs.getD i .non);have Y:vs.getD i .non= .ref a:=by rw[NC,e1];rfl
  rw[Y];exact .tup e2 (sm _)
end
section
variable {X:Cx}{E:XD}{e:Expr}{m:TM}{pos:Pos}
theorem rC:cY X (.builtin "sorted") (λxs H Q=>∃(p:b_) (vs:List V) (Z:List (List Int)),xs=[.ref p]/\jz X.K H p vs/\TRow H vs Z/\vs.length<64/\
  ∀q,gF Z q->∀l,H l=none->Q (.ref l) (upd H l (.lst (q.map λi=>vs.getD i .non)))):=by
 intro pins s σ H xs us Q I r h;obtain⟨p,vs,Z,rfl,L,T,Y,q⟩:=h;obtain⟨u,rfl,J⟩:=vals1 r;cases (show u=ee p from J);obtain⟨its,U,P,F⟩:=I.list L;have S:=U.length;refine jr I (λus=>us=its) (λR G O=>?_) λus N=>⟨vs,Z,by rw[N];exact U,T,Y,q⟩;refine collect_list P.isList (O its _ _ rfl λb o e=>?_) (by rw[Oo];omega);have W:b<s.heap.objs.size:=Ny e;rw[QE _ _ _ _ (NL W)];exact Nq _ e
def n8(P:eb)(w:er)(a:b_)(kv:List KA):fg->Prop:=λh=>∃o es ep t L,SetAt P w h a o es ep t L/\Folded kv L
def kO(vs:List V)(nss:List (List Int)):List KA:=(ey vs.length).map λi=>(nss.getD i [],match vs.getD i .non with| .ref a=>a|_=>0)
theorem Iu{H:Hp}(W:gh P w H h){ns:List Int}(e:H a=ar (.tup (ns.map V.int))):k7 (n4 P w) h ns a:=by
 obtain⟨_,ws,Z,o,Y,T,n,hd⟩:=(show bh P w H h a (.tup (ns.map V.int))from W a _ e);refine⟨o,ws.toArray,n,Y,T,hd,?_⟩;have U:=Q5 Z;have go:∀{ws:List aC} {ns:List Int},n_ ws ns->ItemsAre (n4 P w) ns ws:=by
  intro ws ns h
  induction h with
  |nil=>exact .nil
  |cons n t _ ih=>exact .cons (intKind_is _ _ _ _) ih
 simpa using go U
theorem AA(F:X.calm=c_)(f:X.A.units+8<A'):cY X (.type "set") (λxs H Q=>∃(p:b_) (vs:List V) (Z:List (List Int)),xs=[.ref p]/\(jz X.K H p vs\/lu X.K H p vs)/\
  (∀i,i<vs.length->∃a,vs[i]? =ar (.ref a)/\H a=ar (.tup ((Z.getD i []).map V.int)))/\vs.length<=63/\∀l,H l=none->Q (.ref l) (upd H l (.ext (n8 X.prog X.w l (kO vs Z))))):=by
 intro pins s σ H xs us Q I r h;obtain⟨p,vs,Z,rfl,U,T,y,q⟩:=h;obtain⟨u,rfl,g⟩:=vals1 r;cases (show u=ee p from g);have src:∃its,bj vs its/\Src s.heap p its.toArray:=by
  rcases U with U|U
  ·obtain⟨its,Y,S,z⟩:=I.list U;exact⟨its,Y,.inl S.isList⟩
  ·obtain⟨its,Y,S,z⟩:=I.tuple U;exact⟨its,Y,.inr S⟩
 obtain⟨its,Y,hs⟩:=src;have W:=Y.length;have n:∀A:g_,A.in1.units<=A.units+1:=λA=>Nu _;have at':∀i,i<vs.length->∃a,its[i]? =ar (.ref a)/\vs.getD i .non= .ref a/\H a=ar (.tup ((Z.getD i []).map V.int)):=λi R=>by obtain⟨a,e1,e2⟩:=T i R;obtain⟨u,P,G⟩:=Y.get e1;cases (show u=ee a from G);exact⟨a,P,by rw[NC,e1];rfl,e2⟩
 have hf:H s.heap.objs.size=none:=I.hok.fresh (Nu _);refine Ir (I.ok.hd F) (by show X.A.units+3<A';omega) hs (λi=>(Z.getD i [],match vs.getD i .non with| .ref a=>a|_=>0)) (λi v O=>?_) (by rw[NG];omega) (λj x=>?_) λh' d o es ep t L J N B=>?_
 ·have R:i<vs.length:=by rw[W];simpa using(NR.mp O).1
  obtain⟨a,e1,e2,_⟩:=at' i R;rw[O5,e1]at O;cases O;simp only[e2]
 ·rw[NG]at x;obtain⟨a,e1,e2,C⟩:=at' j (by omega);simp only[e2];exact Iu I.hok C
 ·rw[NG, <-W]at N;refine⟨.ref s.heap.objs.size,_,I.laid (o:=.ext (n8 X.prog X.w s.heap.objs.size (kO vs Z))) (λb o e=>B b o (Ny e) e) (Nu _) ⟨⟨o,es,ep,t,L,J,N⟩,⟨o,J.get⟩,λh1 h2 ⟨o,es,ep,t,L,a1,a2⟩ k=>⟨o,es,ep,t,L,a1.at k,a2⟩⟩,rfl,q _ hf⟩
theorem t8(J:X.calm=c_):cY X (.builtin "sorted") (λxs H Q=>∃(p:b_) (T:List KA),xs=[.ref p]/\H p=ar (.ext (n8 X.prog X.w p T))/\(∀k∈T,H k.2=ar (.tup (k.1.map V.int))/\k.1.length=2)/\T.length<=63/\
  ∀L q,Folded T L->gF (L.map (·.1)) q->∀l,H l=none->Q (.ref l) (upd H l (.lst (q.map λi=>(L.map λk=>V.ref k.2).getD i .non)))):=by
 intro pins s σ H xs us Q I r h;obtain⟨p,T,rfl,z,N,x,q⟩:=h;obtain⟨u,rfl,n⟩:=vals1 r;cases (show u=ee p from n);obtain⟨⟨o,es,ep,t,L,O,P⟩,_,_⟩:=(show bh X.prog X.w H s.heap p (.ext (n8 X.prog X.w p T))from I.hok p _ z);have F:=P.len;have S:∀l:List KA,bj (l.map λk=>V.ref k.2) (l.map λk=>ee k.2):=by
  intro l
  induction l with
  |nil=>exact .nil
  |cons k l ih=>exact .cons rfl ih
 refine jr I (λus=>∃Z:List KA,Z.Perm L/\us=Z.map λk=>ee k.2) (λR g C=>?_) ?_
 ·refine vy (by show X.A.handled=none;exact I.ok.hd J) O (by rw[O.len];omega) λh' j Z U G=>C _ _ _ ⟨Z,U,rfl⟩ G
 ·rintro us ⟨Z,U,rfl⟩;have Y:=P.perm U;have K:=Y.len;refine⟨Z.map λk=>V.ref k.2,Z.map (·.1),S Z,⟨by simp,λi W=>?_,λi W=>?_⟩,by simp;omega,λv B l y=>q Z v Y B l y⟩
  ·rw[Nt]at W;refine⟨Z[i].2,by rw[NP,Nw W];rfl,?_⟩;have:=(N _ (Y.sub _ (OG W))).1;rw[NC,NP,Nw W];exact this
  ·rw[Nt]at W;rw[NC,NP,Nw W];exact Nat.lt_of_lt_of_eq (by decide:0<2) (N _ (Y.sub _ (OG W))).2.symm
def two(nss:List (List Int)):Bool:=nss.all λns=>ns.length !=0
def vz(nss:List (List Int)):M D:=if nss.length<64/\two nss=c_ then bp ((iR nss).map tupI)else M.fail
def so(xs:List D):M D:=match intsOf xs with
 |some ns=>if ns.length<64 then bp ((sortI ns).map D.int)else M.fail
 |none=>match rowsOf xs with
  |some nss=>vz nss
  |none=>M.fail
def dP:List D->M D
 |[.lst k]=>do
  let xs<-getL k
  so xs
 |[.fz xs]=>so xs
 |_=>M.fail
theorem Fc{H:Hp}{vs:List V}{Z:List (List Int)}(h:vs.length=Z.length/\∀i,i<vs.length->∃a,vs[i]? =ar (.ref a)/\H a=ar (.tup ((Z.getD i []).map V.int)))(W:two Z=c_):TRow H vs Z:=
 ⟨h.1,h.2,λi U=>by
  have Y:i<Z.length:=by rw[<-h.1];exact U
  have:=NT.mp W Z[i] (OG Y);rw[NC,Nw Y];exact Nat.pos_of_ne_zero λz=>by rw[show(ar Z[i]).getD []=Z[i]from rfl]at z;rw[z]at this;cases this⟩
theorem t9:jo X.K E dP (λxs H Q=>(∃(p:b_) (ns:List Int),xs=[.ref p]/\jz X.K H p (ns.map V.int)/\ns.length<64/\∀l,H l=none->Q (.ref l) (upd H l (.lst ((sortI ns).map V.int))))\/
  ∃(p:b_) (vs:List V) (nss:List (List Int)),xs=[.ref p]/\jz X.K H p vs/\TRow H vs nss/\vs.length<64/\∀q,gF nss q->∀l,H l=none->Q (.ref l) (upd H l (.lst (q.map λi=>vs.getD i .non)))):=by
 intro ι S H ds vs Q rep r c;have fin:∀{es:List D} {us:List V} {p:b_},RelDs X.K ι H es us->Rd H p (.lst us)->cont X.K E (so es) ι S H (lg X.K Q)->vs=[.ref p]->
   (∃(p:b_) (ns:List Int),vs=[.ref p]/\jz X.K H p (ns.map V.int)/\ns.length<64/\∀l,H l=none->Q (.ref l) (upd H l (.lst ((sortI ns).map V.int))))\/
  ∃(p:b_) (ws:List V) (nss:List (List Int)),vs=[.ref p]/\jz X.K H p ws/\TRow H ws nss/\ws.length<64/\∀q,gF nss q->∀l,H l=none->Q (.ref l) (upd H l (.lst (q.map λi=>ws.getD i .non))):=by
  intro es us p W T Z U;unfold so at Z;cases q:intsOf es with
  | some ns=>
   rw[q]at Z;have Y:cont X.K E (if ns.length<64 then bp ((sortI ns).map D.int)else M.fail) ι S H (lg X.K Q):=Z;by_cases h:ns.length<64
   ·rw[if_pos h]at Y;exact .inl ⟨p,ns,U,.inl (by rw[<-gD W q];exact T),h,(bt Y rep (pF _)).2⟩
   ·rw[if_neg h]at Y;exact(ag Y).elim
  | none=>
   rw[q]at Z;cases q2:rowsOf es with
   |none=>rw[q2]at Z;exact(ag Z).elim
   | some nss=>
    rw[q2]at Z;have Y:cont X.K E (if nss.length<64/\two nss=c_ then bp ((iR nss).map tupI)else M.fail) ι S H (lg X.K Q):=Z;by_cases h:nss.length<64/\two nss=c_
    ·rw[if_pos h]at Y;obtain⟨g1,g2⟩:=pT W q2;refine .inr ⟨p,us,nss,U,.inl T,Fc ⟨g1,g2⟩ h.2,by omega,λL J l G=>?_⟩;have N:∀i∈L,i<us.length:=λi I=>by rw[g1];exact N1.mp (J.1.mem_iff.mp I)
     have F:RelDs X.K ι H ((iR nss).map tupI) (L.map λi=>us.getD i .non):=by rw[<-pS J];exact pU g2 L N
     exact(bt Y rep F).2 l G
    ·rw[if_neg h]at Y;exact(ag Y).elim
 unfold dP at c;split at c
 ·next k=>
  obtain⟨v,ws,rfl,P,R⟩:=r.cons_inv;cases R.nil_inv;obtain⟨p,rfl,O⟩:=P.lst_inv;obtain⟨es,us,_,T,W,Z⟩:=br c rep O;exact fin W (.inl T) Z rfl
 ·next es=>
  obtain⟨v,ws,rfl,P,R⟩:=r.cons_inv;cases R.nil_inv;obtain⟨p,o,us,rfl,O,W⟩:=P.fz_inv;exact fin W (.inr ⟨o,O⟩) c rfl
 ·exact(ag c).elim
theorem mU(Y:X.mg "sorted"=none)(W:SE X E e m)(Z:Gl X "sorted":=by rfl)(hs:dV [e] X.env=[(dr,g6 e X.env)]:=by rfl):SE X E (.Call (.Name "sorted" p) [e] [] pos) (λρ=>do let ds<-(do let x<-m ρ;let xs<-aw [];aw (x::xs));dP ds):=
 iM (cY.or tV rC) t9 Z Y (by decide+kernel) (af W ao hs) (by decide) (by decide) hs rfl
def Iv(nss:List (List Int)):Bool:=nss.all λns=>ns.length==2
def bX(nss:List (List Int)):M D:=if nss.length<=63/\Iv nss=c_ then bp ((eZ nss).map tupI)else M.fail
def iT:List D->M D
 |[.lst k]=>do
  let xs<-getL k
  match rowsOf xs with
  |some nss=>bX nss
  |none=>M.fail
 |[.tup xs]=>match rowsOf xs with
  |some nss=>bX nss
  |none=>M.fail
 |[.fz xs]=>match rowsOf xs with
  |some nss=>bX nss
  |none=>M.fail
 |_=>M.fail
theorem Fd{vs:List V}{Z:List (List Int)}(h:vs.length=Z.length):(kO vs Z).map (·.1)=Z:=by
 unfold kO;rw[N0];refine Qe λi=>?_;rw[NP,h];by_cases hi:i<Z.length
 ·rw[PL hi,Nw hi];simp[oo,hi]
 ·rw[Oj (by simpa using hi),Oj (by omega)];rfl
theorem KJ{K:dt}{ι:List b_}{H:Hp}{L:List KA}(h:∀k∈L,H k.2=ar (.tup (k.1.map V.int))):∀q:List Nat,(∀i∈q,i<L.length)->RelDs K ι H ((q.map λi=>(L.map (·.1)).getD i []).map tupI) (q.map λi=>(L.map λk=>V.ref k.2).getD i .non):=by
 intro q Y;refine pU (λi Z=>?_) q λi Z=>by rw[Nt];exact Y i Z
 rw[Nt]at Z;refine⟨L[i].2,by rw[NP,Nw Z];rfl,?_⟩;rw[NC,NP,Nw Z];exact h _ (OG Z)
theorem l9{p q T:Pos}(hc:X.calm=c_)(hu:X.A.units+8<A')(hm:X.mg "sorted"=none)(f:X.mg "set"=none)(ha:SE X E e m)(hg:Gl X "sorted":=by rfl)(a0:Gl X "set":=by rfl)(hs:dV [e] X.env=[(dr,g6 e X.env)]:=by rfl)
  (u:dV [.Call (.Name "set" q) [e] [] T] X.env=[(dr,g6 (.Call (.Name "set" q) [e] [] T) X.env)]:=by rfl):
  SE X E (.Call (.Name "sorted" p) [.Call (.Name "set" q) [e] [] T] [] pos) (λρ=>do let ds<-(do let x<-m ρ;let xs<-aw [];aw (x::xs));iT ds):=by
 refine PE.imp (jA (t8 hc) hg hm (by decide+kernel) (fe (jX (AA hc hu) a0 f (by decide+kernel) (af ha ao hs) (by decide) (by decide) hs rfl) kF u) (by decide) (by decide) u rfl) λσ H Q h=>?_;obtain⟨ι,S,ρ,rep,re,c⟩:=h;refine⟨ι,S,ρ,rep,re,ak (ai c) λds R S1 Y e1 rep1 U vs r=>?_⟩;have fin:∀{xs:List D} {us:List V} {a:b_} {Z:List (List Int)},RelDs X.K R Y xs us->rowsOf xs=ar Z->(jz X.K Y a us\/lu X.K Y a us)->cont X.K E (bX Z) R S1 Y (lg X.K Q)->vs=[.ref a]->
   ∃ (p:b_) (vs':List V) (Z:List (List Int)),vs=[.ref p]/\(jz X.K Y p vs'\/lu X.K Y p vs')/\
    (∀i,i<vs'.length->∃a,vs'[i]? =ar (.ref a)/\Y a=ar (.tup ((Z.getD i []).map V.int)))/\vs'.length<=63/\∀l,Y l=none->
     ∃(p:b_) (kv:List KA),[V.ref l]=[.ref p]/\upd Y l (.ext (n8 X.prog X.w l (kO vs' Z))) p=ar (.ext (n8 X.prog X.w p kv))/\(∀k∈kv,upd Y l (.ext (n8 X.prog X.w l (kO vs' Z))) k.2=ar (.tup (k.1.map V.int))/\k.1.length=2)/\kv.length<=63/\
      ∀L q,Folded kv L->gF (L.map (·.1)) q->∀B,upd Y l (.ext (n8 X.prog X.w l (kO vs' Z))) B=none->Q (.ref B) (upd (upd Y l (.ext (n8 X.prog X.w l (kO vs' Z)))) B (.lst (q.map λi=>(L.map λk=>V.ref k.2).getD i .non))):=by
  intro xs us a Z O W d C j;unfold bX at C;by_cases h:Z.length<=63/\Iv Z=c_
  ·rw[if_pos h]at C;obtain⟨g1,g2⟩:=pT O W;refine⟨a,us,Z,j,d,g2,by omega,λl s=>⟨l,kO us Z,rfl,bg,λk N=>?_,by unfold kO;simp;omega,λL qq hF hq B n=>?_⟩⟩
   ·unfold kO at N;obtain⟨i,P,rfl⟩:=N8.mp N;rw[N1]at P;obtain⟨b,g,F⟩:=g2 i P;have b3:us.getD i .non= .ref b:=by rw[NC,g];rfl
    simp only[b3];refine⟨by rw[aM (aN F s)];exact F,?_⟩;have y:i<Z.length:=by omega
    have:=NT.mp h.2 Z[i] (OG y);rw[NC,Nw y];simpa using this
   ·have hE:Ext R Y R (upd Y l (.ext (n8 X.prog X.w l (kO us Z)))):=fM s;have rep2:=gX (o:=.ext (n8 X.prog X.w l (kO us Z))) rep1 s;have a3:∀i∈qq,i<L.length:=λi P=>by
     have:=N1.mp (hq.1.mem_iff.mp P);simpa using this
    have N:∀k∈L,upd Y l (.ext (n8 X.prog X.w l (kO us Z))) k.2=ar (.tup (k.1.map V.int)):=λk N=>by
     have z:=hF.sub k N;unfold kO at z;obtain⟨i,P,rfl⟩:=N8.mp z;rw[N1]at P;obtain⟨b,g,F⟩:=g2 i P;have b3:us.getD i .non= .ref b:=by rw[NC,g];rfl
     simp only[b3];rw[aM (aN F s)];exact F
    have rr:=KJ (K:=X.K) (ι:=R) N qq a3;rw[pS hq,Cf hF,Fd g1]at rr;exact(bt (gC C hE) rep2 rr).2 B n
  ·rw[if_neg h]at C;exact(ag C).elim
 unfold iT at U;split at U
 ·next k=>
  obtain⟨v,ws,rfl,I,J⟩:=r.cons_inv;cases J.nil_inv;obtain⟨a,rfl,G⟩:=I.lst_inv;obtain⟨es,us,_,hv,O,t⟩:=br U rep1 G;cases W:rowsOf es with
  |none=>rw[W]at t;exact(ag t).elim
  |some Z=>
   rw[W]at t;exact fin O W (.inl (.of hv)) t rfl
 ·next xs=>
  obtain⟨v,ws,rfl,I,J⟩:=r.cons_inv;cases J.nil_inv;obtain⟨a,us,rfl,G,O⟩:=I.tup_inv;cases W:rowsOf xs with
  |none=>rw[W]at U;exact(ag U).elim
  |some Z=>
   rw[W]at U;exact fin O W (.inr (.of G)) U rfl
 ·next xs=>
  obtain⟨v,ws,rfl,I,J⟩:=r.cons_inv;cases J.nil_inv;obtain⟨a,o,us,rfl,G,O⟩:=I.fz_inv;cases W:rowsOf xs with
  |none=>rw[W]at U;exact(ag U).elim
  |some Z=>
   rw[W]at U;exact fin O W (.inl (.inl (.inr ⟨o,G⟩))) U rfl
 ·exact(ag U).elim
end
end S3
namespace S4
open PySem PySem.Spec PyProof.Rows L2 S3
section
variable {prog:eb}{w:er}{A:g_}{E:aC->a_->Prop}{s:a_}
theorem kP{Q:aC->a_->Prop}(Z:s.heap.IsTupleIter it t i)(U:s.heap.IsTuple t items)(S:items[i]? =ar x)
  (T:∀h',h'.IsTupleIter it t (i+1)->s_ it s.heap h'->Q x {s with heap:=h'}):d_ (eK prog w) A (j3 (.ref it)) Q E s:=by
 obtain⟨o,Y,R,hd⟩:=id Z;obtain⟨ol,W,_,nl,X⟩:=U;unfold j3;refine Np (wpAny_callSpecial?_slot (name:=j2 "__next__") Z.typeIs O1
  (Oz O1 Z.typeIs QF ?_ (QB _)))
 show d_ _ _ (Te (.ref it) 0>>=_) _ _ s;refine Np (Ox Y hd (x:=.ref t) rfl ?_);show d_ _ _ (if (ee t==hY)=c_ then _ else _) _ _ s;rw[if_neg (show ¬ ((ee t==hY)=c_)from OS)];show d_ _ _ (Te (.ref it) 1>>=_) _ _ s;refine Np (Ox Y hd (x:=.int i 0) rfl ?_);show d_ _ _ (Tq (.ref t)>>=_) _ _ s;refine Np (OQ W X ?_);simp only[P_,S];refine Np (Pl Y hd (by simp) (Nv ⟨x,rfl,Nv (T _ ?_ (OP ..))⟩));exact⟨_,Oy _ Y (Px (OT hd _)),(Rb ..).trans R,by rw[OT hd];simp[mv]⟩
theorem sr(U:A.handled=none)(Z:s.heap.IsTupleIter it t i)(S:s.heap.IsTuple t items)(R:items[i]? =none)
  (T:∀h' e,Heap.ExtBut it s.heap h'->(∃o,h'.get? e=ar o/\o.cls= .type "StopIteration")->E (.ref e) {s with heap:=h'}):d_ (eK prog w) A (j3 (.ref it)) Q E s:=by
 obtain⟨o,Y,P,hd⟩:=id Z;obtain⟨ol,W,_,nl,X⟩:=S;unfold j3;refine Np (wpAny_callSpecial?_slot (name:=j2 "__next__") Z.typeIs O1
  (Oz O1 Z.typeIs QF ?_ (QB _)))
 show d_ _ _ (Te (.ref it) 0>>=_) _ _ s;refine Np (Ox Y hd (x:=.ref t) rfl ?_);show d_ _ _ (if (ee t==hY)=c_ then _ else _) _ _ s;rw[if_neg (show ¬ ((ee t==hY)=c_)from OS)];show d_ _ _ (Te (.ref it) 1>>=_) _ _ s;refine Np (Ox Y hd (x:=.int i 0) rfl ?_);show d_ _ _ (Tq (.ref t)>>=_) _ _ s;refine Np (OQ W X ?_);simp only[P_,R];refine Np (QC (Np (Pl Y hd (by simp) ?_)));show d_ _ _ (T_ (.type "StopIteration") []>>=_) _ _ _;refine Np ?_;simp only[T_,newTuple];refine Np (Og ?_ (by size_fits));refine Np (m:=O_ _ _) (SN (a:=hY) (by first|rfl|(simp only[O_];rfl)) ?_);refine Og ?_ (by size_fits);simp only[raiseNew];refine Np (wpAny_handled ?_);first|rw[show A.in1.handled=none from U]|rw[U]
 refine Np (Nv (wpAny_throw ?_));exact T _ _ (((OP ..).extBut.push _).push _) ⟨_,NA _ rfl,rfl⟩
theorem AB{z TI TO J N u n:b_}{k:Nat}{xs ys:Array aC}{x y a b:aC}{Q:Option aC->a_->Prop}(D:Tf z TI TO J N u n)
  (v:RL s.heap z TI TO .none) (a6:q_ s.heap TI (.ref J) (.ref N)) (h:q_ s.heap TO a b)
  (h1:s.heap.IsTupleIter J u k) (h2:s.heap.IsTupleIter N n k) (a0:s.heap.IsTuple u xs) (j:s.heap.IsTuple n ys) (hx:xs[k]? =ar x) (hy:ys[k]? =ar y)
  (hQ:∀h',RL h' z TI TO (mv s.heap.objs.size)->q_ h' TO x y->h'.IsTupleIter J u (k+1)->h'.IsTupleIter N n (k+1)->q_ h' s.heap.objs.size x y->h'.objs.size=s.heap.objs.size+1->
   (∀c o,c≠z->c≠TO->c≠J->c≠N->s.heap.get? c=ar o->h'.get? c=ar o)->Q (ar (.ref s.heap.objs.size)) {s with heap:=h'}):d_ (eK prog w) A (L0 (.ref z)) Q E s:=by
 have hT:s.TypeIs (.ref z) "zip":=⟨_,v,rfl⟩;unfold L0;refine Np (P1 (wpAny_callSpecial?_slot (name:=j2 "__next__") hT QG (Oz QG hT F.entry_zip_next ?_ (F.args_zip_next_1 _))));show d_ _ _ (Te (.ref z) 2>>=_) _ _ _;refine Np (Ox v rfl (x:=.bool dr) rfl ?_);show d_ _ _ (Te (.ref z) 3>>=_) _ _ _;refine Np (Ox v rfl (x:=.ref TI) rfl ?_);refine Np (OQ a6 rfl ?_);show d_ _ _ (k' (.ref z)>>=_) _ _ _;refine Np ?_;unfold k';refine Np (Ox v rfl (x:=.none) rfl (Nv ?_));simp only[if_true];refine Np (QC ?_);refine Np (Ox v rfl (x:=.ref TO) rfl ?_);refine Np (O7 v (by simp) λg1 H Y=>?_);replace H:RL g1 z TI TO .ellipsis:=H;refine Np ?_;simp only[List.zipIdx_cons,List.zipIdx_nil,RQ,List.forIn_nil];refine Np (Np (Rj ?_));show d_ _ _ (j3 (.ref J)>>=_) _ _ _;refine Np (kP (s:={s with heap:=g1}) (h1.at λo e=>Y.extBut _ _ D.i1z e) (a0.extBut Y.extBut D.l1z) hx λg2 a7 U=>Nv ?_);have L:q_ g2 TO a b:=U.extBut _ _ D.TOi1 (Y.extBut _ _ D.TOz h);refine Np (OQ L rfl ?_);refine Np (Qy L λg3 R W=>?_);replace R:q_ g3 TO x b:=R;refine Np (SQ (Nv ?_));refine Np (Np (Rj ?_));show d_ _ _ (j3 (.ref N)>>=_) _ _ _;refine Np (kP (s:={s with heap:=g3}) (((h2.at λo e=>Y.extBut _ _ D.i2z e).at λo e=>U.extBut _ _ D.i12.symm e).at λo e=>W.extBut _ _ D.TOi2.symm e)
  (((j.extBut Y.extBut D.l2z).extBut U.extBut D.l2i1).extBut W.extBut D.l2TO) hy λg4 f S=>Nv ?_)
 have K:q_ g4 TO x b:=S.extBut _ _ D.TOi2 R;refine Np (OQ K rfl ?_);refine Np (Qy K λZ X T=>?_);replace X:q_ Z TO x y:=X;refine Np (SQ (Nv (Nv ?_)));refine Np (OQ X rfl ?_);refine Np (wpAny_newTuple ?_);have r:Z.objs.size=s.heap.objs.size:=by rw[T.1,S.1,W.1,U.1,Y.1]
 have m:RL Z z TI TO .ellipsis:=T.extBut _ _ D.TOz.symm (S.extBut _ _ D.i2z.symm (W.extBut _ _ D.TOz.symm (U.extBut _ _ D.i1z.symm H)));have g:∀c o,c≠z->c≠TO->c≠J->c≠N->s.heap.get? c=ar o->Z.get? c=ar o:=λc o B l c3 i e=>
  T.extBut _ _ l (S.extBut _ _ i (W.extBut _ _ l (U.extBut _ _ c3 (Y.extBut _ _ B e))))
 have d:Z.IsTupleIter J u (k+1):=((a7.at λo e=>W.extBut _ _ D.TOi1.symm e).at λo e=>S.extBut _ _ D.i12 e).at λo e=>T.extBut _ _ D.TOi1.symm e;have a5:Z.IsTupleIter N n (k+1):=f.at λo e=>T.extBut _ _ D.TOi2.symm e;have O:z<Z.objs.size:=Ny m;show d_ _ _ (Builtin.SmallTypes.ownedTupleHandOut (.ref z) (.ref Z.objs.size)>>=_) _ _ _;refine Np ?_;unfold Builtin.SmallTypes.ownedTupleHandOut;have a4:RL (Z.push {cls:=.type "tuple",data:=.seq #[x,y]}) z TI TO .ellipsis:=Nq _ m;refine Np (O7 a4 (by simp) λg7 G I=>?_);replace G:RL g7 z TI TO (mv Z.objs.size):=G;refine O7 G (by simp) λt P C=>?_;replace P:RL t z TI TO (mv Z.objs.size):=P;have up:∀c o,c≠z->Z.get? c=ar o->t.get? c=ar o:=λc o B e=>C.extBut _ _ B (I.extBut _ _ B (Nq _ e));have p:q_ t Z.objs.size x y:=C.extBut _ _ (O3 O) (I.extBut _ _ (O3 O) (NA _ rfl));have q:t.objs.size=Z.objs.size+1:=by rw[C.1,I.1,OI]
 rw[r]at P p q;refine Nv ⟨_,rfl,?_⟩;refine Nv ?_;show Q (ar (.ref Z.objs.size)) _;rw[r];exact hQ t P (up _ _ D.TOz X) (d.at λo e=>up _ o D.i1z e) (a5.at λo e=>up _ o D.i2z e) p q λc o B l c3 i e=>up c o B (g c o B l c3 i e)
theorem Cg{z TI TO K N t l:b_}{k:Nat}{xs ys:Array aC}{a b:aC}{Q:Option aC->a_->Prop}(i:A.handled=none)(D:Tf z TI TO K N t l)
  (L:RL s.heap z TI TO .none) (p:q_ s.heap TI (.ref K) (.ref N)) (m:q_ s.heap TO a b)
  (f:s.heap.IsTupleIter K t k) (h2:s.heap.IsTupleIter N l k) (G:s.heap.IsTuple t xs) (r:s.heap.IsTuple l ys) (H:xs[k]? =none\/ys[k]? =none)
  (n:∀h',(∀c o,c≠z->c≠TO->c≠K->c≠N->s.heap.get? c=ar o->h'.get? c=ar o)->Q none {s with heap:=h'}):d_ (eK prog w) A (L0 (.ref z)) Q E s:=by
 have j:s.TypeIs (.ref z) "zip":=⟨_,L,rfl⟩;unfold L0;refine Np (P1 (wpAny_callSpecial?_slot (name:=j2 "__next__") j QG (Oz QG j F.entry_zip_next ?_ (F.args_zip_next_1 _))));have stop:∀(g:fg) (e:b_),(∃o,g.get? e=ar o/\o.cls= .type "StopIteration")->(∀c o,c≠z->c≠TO->c≠K->c≠N->s.heap.get? c=ar o->g.get? c=ar o)->∀R:aC->a_->Prop,
   (∀v s',d_ (eK prog w) A (do if<-isInstance v (.type "StopIteration")then aw none else throw v) Q E s'->R v s')->R (.ref e) {s with heap:=g}:=λg e ⟨o,ho,hc⟩ hk R hR=>hR _ _ (by
  refine Np (PK (T:="StopIteration") (b:=c_) ⟨o,ho,hc⟩ QY ?_);exact Nv (n _ hk))
 show d_ _ _ (Te (.ref z) 2>>=_) _ _ _;refine Np (Ox L rfl (x:=.bool dr) rfl ?_);show d_ _ _ (Te (.ref z) 3>>=_) _ _ _;refine Np (Ox L rfl (x:=.ref TI) rfl ?_);refine Np (OQ p rfl ?_);show d_ _ _ (k' (.ref z)>>=_) _ _ _;refine Np ?_;unfold k';refine Np (Ox L rfl (x:=.none) rfl (Nv ?_));simp only[if_true];refine Np (QC ?_);refine Np (Ox L rfl (x:=.ref TO) rfl ?_);refine Np (O7 L (by simp) λg1 S Z=>?_);replace S:RL g1 z TI TO .ellipsis:=S;refine Np ?_;simp only[List.zipIdx_cons,List.zipIdx_nil,RQ,List.forIn_nil];refine Np (Np (Rj ?_));show d_ _ _ (j3 (.ref K)>>=_) _ _ _;cases hx:xs[k]? with
 |none=>
  refine Np (sr (s:={s with heap:=g1}) i (f.at λo e=>Z.extBut _ _ D.i1z e) (G.extBut Z.extBut D.l1z) hx λg2 e Y he=>?_);obtain⟨u,X,U⟩:=he;have J:RL g2 z TI TO .ellipsis:=Y _ _ D.i1z.symm S;have O:e≠z:=λx=>by subst x;rw[J]at X;cases X;simp at U
  refine O7 J (by simp) λg3 _ W=>?_;refine Np (PK (T:="StopIteration") (b:=c_) ⟨u,W.extBut _ _ O X,U⟩ QY ?_);exact Nv (n _ λc o C _ q _ x=>W.extBut _ _ C (Y _ _ q (Z.extBut _ _ C x)))
 | some x=>
  have hy:ys[k]? =none:=by rcases H with h|h;rw[hx]at h;cases h;exact h
  refine Np (kP (s:={s with heap:=g1}) (f.at λo e=>Z.extBut _ _ D.i1z e) (G.extBut Z.extBut D.l1z) hx λg2 a6 Y=>Nv ?_);have P:q_ g2 TO a b:=Y.extBut _ _ D.TOi1 (Z.extBut _ _ D.TOz m);refine Np (OQ P rfl ?_);refine Np (Qy P λg3 d W=>?_);refine Np (SQ (Nv ?_));refine Np (Np (Rj ?_));show d_ _ _ (j3 (.ref N)>>=_) _ _ _;refine Np (sr (s:={s with heap:=g3}) i (((h2.at λo e=>Z.extBut _ _ D.i2z e).at λo e=>Y.extBut _ _ D.i12.symm e).at λo e=>W.extBut _ _ D.TOi2.symm e)
   (((r.extBut Z.extBut D.l2z).extBut Y.extBut D.l2i1).extBut W.extBut D.l2TO) hy λg4 e B he=>?_)
  obtain⟨u,X,U⟩:=he;have y:RL g4 z TI TO .ellipsis:=B _ _ D.i2z.symm (W.extBut _ _ D.TOz.symm (Y.extBut _ _ D.i1z.symm S));have O:e≠z:=λx=>by subst x;rw[y]at X;cases X;simp at U
  refine O7 y (by simp) λg5 _ I=>?_;refine Np (PK (T:="StopIteration") (b:=c_) ⟨u,I.extBut _ _ O X,U⟩ QY ?_);exact Nv (n _ λc o C c2 q c4 x=>I.extBut _ _ C (B _ _ c4 (W.extBut _ _ c2 (Y.extBut _ _ q (Z.extBut _ _ C x)))))
end
def LJ(l:b_):Obj:={cls:=.type "tuple_iterator",data:=.fields #[.ref l,.int 0 0]}
def Iw(h:fg)(l1:b_):Heap:=h.push (LJ l1)
def Iy(h:fg)(l1 l2:b_):Heap:=(Iw h l1).push (LJ l2)
def Iz(h:fg)(l1 l2:b_):Heap:=(Iy h l1 l2).push {cls:=.type "tuple",data:=.seq #[.ref h.objs.size,.ref (Iw h l1).objs.size]}
def JS(h:fg)(l1 l2:b_):Heap:=(Iz h l1 l2).push {cls:=.type "tuple",data:=.seq #[.none,.none]}
def IA(h:fg)(l1 l2:b_):Heap:=(JS h l1 l2).push {cls:=.type "zip",data:=.fields #[.none,.bool dr,.bool dr,.ref (Iy h l1 l2).objs.size,.ref (Iz h l1 l2).objs.size]}
theorem IB(Z Y:b_)(xs ys:Array aC):
  Meets (Builtin.«zip.__new__» ⟨[.type "zip",.ref Z,.ref Y],[]⟩) (λ_ R s=>s.heap.IsTuple Z xs/\s.heap.IsTuple Y ys/\R (.ok (.ret (.ref (JS s.heap Z Y).objs.size))) {s with heap:=IA s.heap Z Y}):=
 .of_wp λprog w A R s h=>by
  obtain⟨S,g,d,Q,os⟩:=s;obtain⟨T,W,h⟩:=h;have P:=sub_zip;have U:Heap.IsTuple (Shared.heap ⟨S,g,d,Q,os⟩) Z xs:=T;have X:Heap.IsTuple (Shared.heap ⟨S.push {cls:=.type "tuple_iterator",data:=.fields #[.ref Z,.int 0 0]},g,d,Q,os⟩) Y ys:=let ⟨o,e,r⟩:=W;⟨o,Nq _ e,r⟩
  wp_walk using PU U,PU X
  exact⟨_,rfl,h⟩
section
variable {prog:eb}{w:er}{A:g_}{E:aC->a_->Prop}{s:a_}
theorem AC{Q:aC->a_->Prop}(P:s.heap.IsTuple l1 xs)(R:s.heap.IsTuple l2 ys)
  (h:∀h',RL h' (s.heap.objs.size+4) (s.heap.objs.size+2) (s.heap.objs.size+3) .none->q_ h' (s.heap.objs.size+2) (.ref s.heap.objs.size) (.ref (s.heap.objs.size+1))->
   q_ h' (s.heap.objs.size+3) .none .none->h'.IsTupleIter s.heap.objs.size l1 0->h'.IsTupleIter (s.heap.objs.size+1) l2 0->(∀c o,s.heap.get? c=ar o->h'.get? c=ar o)->Q (.ref (s.heap.objs.size+4)) {s with heap:=h'}):
  d_ (eK prog w) A (call (.type "zip") [.ref l1,.ref l2]) Q E s:=by
 refine callType_new F.called_zip (by decide) (F.typeCall_zip_2 _ _) (F.newCall_zip_2 _ _) (λobj=>F.args_object_init_3 obj _ _) F.entry_zip_new (IB l1 l2 xs ys) ⟨P,R,?_⟩;have T:(Iw s.heap l1).objs.size=s.heap.objs.size+1:=OI ..;have S:(Iy s.heap l1 l2).objs.size=s.heap.objs.size+2:=(OI ..).trans (by rw[T]);have U:(Iz s.heap l1 l2).objs.size=s.heap.objs.size+3:=(OI ..).trans (by rw[S]);have N:(JS s.heap l1 l2).objs.size=s.heap.objs.size+4:=(OI ..).trans (by rw[U]);have Z:∀{c o},(JS s.heap l1 l2).get? c=ar o->(IA s.heap l1 l2).get? c=ar o:=λe=>Nq _ e;have Y:∀{c o},(Iz s.heap l1 l2).get? c=ar o->(JS s.heap l1 l2).get? c=ar o:=λe=>Nq _ e;have W:∀{c o},(Iy s.heap l1 l2).get? c=ar o->(Iz s.heap l1 l2).get? c=ar o:=λe=>Nq _ e;have L:∀{c o},(Iw s.heap l1).get? c=ar o->(Iy s.heap l1 l2).get? c=ar o:=λe=>Nq _ e;have K:∀{c o},s.heap.get? c=ar o->(Iw s.heap l1).get? c=ar o:=λe=>Nq _ e;have X:(IA s.heap l1 l2).get? (JS s.heap l1 l2).objs.size=ar {cls:=.type "zip",data:=.fields #[.none,.bool dr,.bool dr,.ref (Iy s.heap l1 l2).objs.size,.ref (Iz s.heap l1 l2).objs.size]}:=NA _ rfl;have O:(IA s.heap l1 l2).get? (Iz s.heap l1 l2).objs.size=ar {cls:=.type "tuple",data:=.seq #[.none,.none]}:=Z (NA _ rfl);have g3:(IA s.heap l1 l2).get? (Iy s.heap l1 l2).objs.size=ar {cls:=.type "tuple",data:=.seq #[.ref s.heap.objs.size,.ref (Iw s.heap l1).objs.size]}:=Z (Y (NA _ rfl));have g2:(IA s.heap l1 l2).get? (Iw s.heap l1).objs.size=ar (LJ l2):=Z (Y (W (NA _ rfl)));have g1:(IA s.heap l1 l2).get? s.heap.objs.size=ar (LJ l1):=Z (Y (W (L (NA _ rfl))));show _/\_;rw[S,U,N]at X;rw[T,S]at g3;rw[U]at O;rw[T]at g2;rw[N];exact⟨⟨_,X,rfl⟩,h _ X g3 O ⟨_,g1,rfl,rfl⟩ ⟨_,g2,rfl,rfl⟩ λc o x=>Z (Y (W (L (K x))))⟩
end
def Ba(va vb:List V):It:=⟨λi _=>i<va.length/\i<vb.length,λi H x H'=>∃p a b,H p=none/\va[i]? =ar a/\vb[i]? =ar b/\x= .ref p/\H'=upd H p (.tup [a,b]),λi _=>va.length<=i\/vb.length<=i⟩
section
variable {X:Cx}{pins:List (b_×Obj)}{σ:L2.St}{H:Hp}{s:a_}
theorem yH{h':fg}{t':Nat}{ch:List b_}(I:L2.Inv X pins σ H s)(W:∀b∈ch,lz X pins H b)(k:∀b o,b∉ch->s.heap.get? b=ar o->h'.get? b=ar o):L2.Inv X pins σ H {s with heap:=h',toks:=t'}:=by
 have Y:∀b u,H b=ar u->b∉ch:=λb u e z=>by rw[(W b z).1]at e;cases e
 refine I.step (g':=s.gens) (d':=s.drawn) (ch:=ch) (λb U=>?_) (λb o _ _ Z e _=>k b o Z e) (λb o _ _ Z e _=>⟨o.slots,k b o Z e⟩) (λ_ _ _ _ n=>n)
  (λb o Z e=>⟨o,k b o Z e⟩) (λ_ _ e=>e) (λ_ _ _ e=>e) (λb Q e=>⟨#[],by rw[e];simp⟩) (λm hm=>?_) (λb u e=>?_) I.bare
 ·obtain⟨f0,f1,f2,S,f4,T⟩:=W b U;exact⟨S,f1,f4,T⟩
 ·obtain⟨o,es,ep,R,r⟩:=hm;exact⟨o,es,ep,k _ o (λz=>(W _ z).2.1 rfl) R,r⟩
 ·refine(I.hok b u e).stay (λc v Z q=>k c v ?_ q) (λ_ q=>q) λ_ _ q=>q;rcases Z with z|z
  ·rw[z];exact Y b u e
  ·exact Y c _ z
theorem yI{h':fg}{t':Nat}{ch:List b_}{a:b_}{o:HO}(I:L2.Inv X pins σ H s)(S:∀b∈ch,lz X pins H b)(k:∀b o,b∉ch->s.heap.get? b=ar o->h'.get? b=ar o)(R:s.heap.objs.size<=a)(T:bh X.prog X.w (upd H a o) h' a o):
  L2.Inv X pins σ (upd H a o) {s with heap:=h',toks:=t'}:=by
 have Y:H a=none:=I.hok.fresh R;have W:∀b u,H b=ar u->b∉ch:=λb u e z=>by rw[(S b z).1]at e;cases e
 have ne:∀b o,s.heap.get? b=ar o->b≠a:=λb o e=>NL (NK (Ny e) R);refine I.step (g':=s.gens) (d':=s.drawn) (ch:=ch) (λb U=>?_) (λb o _ _ Z e _=>k b o Z e) (λb o _ _ Z e _=>⟨o.slots,k b o Z e⟩) (λb o _ e n=>by rw[aM (ne b o e)];exact n)
  (λb o Z e=>⟨o,k b o Z e⟩) (λb xs e=>by rw[aM (aN e Y)];exact e) (λb _ _ e=>by rw[aM (aN e Y)];exact e) (λb N e=>⟨#[],by rw[aM (aN e Y),e];simp⟩) (λm hm=>?_) (λb u e=>?_) I.bare
 ·obtain⟨f0,f1,f2,P,f4,Q⟩:=S b U;exact⟨P,f1,f4,Q⟩
 ·obtain⟨o,es,ep,O,r⟩:=hm;exact⟨o,es,ep,k _ o (λz=>(S _ z).2.1 rfl) O,r⟩
 ·by_cases U:b=a
  ·subst U;rw[bg]at e;cases e;exact T
  ·rw[aM U]at e;refine(I.hok b u e).stay (λc v Z q=>k c v ?_ q) (λc q=>by rw[aM (aN q Y)];exact q) λc xs q=>by rw[aM (aN q Y)];exact q
   rcases Z with z|z
   ·rw[z];exact W b u e
   ·exact W c _ z
end
theorem Ci{P:eb}{w:er}{K:dt}{A:List Expr}{x1}{tp:Pos}{z TI TO N O l l2:b_}(D:Tf z TI TO N O l l2){C J:List V}(H0:Hp->Prop)(u:∀H,H0 H↔(H l=ar (.tup C)/\H l2=ar (.tup J))):
  Turn P w K (.Tuple A x1 tp) ⟨λi H=>(Ba C J).go i H/\H0 H,(Ba C J).yld,λi H=>(Ba C J).stop i H/\H0 H⟩ [z,TI,TO,N,O] z
   (λi h=>RL h z TI TO .none/\q_ h TI (.ref N) (.ref O)/\(∃a b,q_ h TO a b)/\h.IsTupleIter N l i/\h.IsTupleIter O l2 i) where
 mem:=by simp
 obj:=λi h st b Z=>by
  obtain⟨R,Y,⟨a,c,U⟩,⟨o1,e1,c1,d1⟩,⟨o2,e2,c2,d2⟩⟩:=st;simp only[gg,e_,or_false]at Z;rcases Z with rfl|rfl|rfl|rfl|rfl
  ·exact⟨_,R,λv z=>by cases z⟩
  ·exact⟨_,Y,λv z=>by cases z⟩
  ·exact⟨_,U,λv z=>by cases z⟩
  ·exact⟨_,e1,λv z=>by rw[d1]at z;cases z⟩
  ·exact⟨_,e2,λv z=>by rw[d2]at z;cases z⟩
 keep:=λi h h' st k=>by obtain⟨R,Y,⟨a,c,U⟩,G,F⟩:=st;exact⟨k z (by simp) _ R,k TI (by simp) _ Y,⟨a,c,k TO (by simp) _ U⟩,G.at λo e=>k N (by simp) o e,F.at λo e=>k O (by simp) o e⟩
 item:=by
  intro X m hw hK hc i pins s σ H E I hf st hg;subst m hw hK;obtain⟨R,Y,⟨a,c,U⟩,G,F⟩:=st;obtain⟨⟨ga,gb⟩,hH⟩:=hg;obtain⟨f,hB⟩:=(u H).mp hH;obtain⟨q,Q,j,_⟩:=I.tuple (.of f);obtain⟨t,L,n,_⟩:=I.tuple (.of hB);obtain⟨u1,a9,b5⟩:=Q.get (Nw ga);obtain⟨u2,b0,b2⟩:=L.get (Nw gb);refine AB D R Y U G F j n (x:=u1) (y:=u2) (by simpa using a9) (by simpa using b0) λh' a1 a2 a3 a4 a5 a6 p=>?_;have d:H s.heap.objs.size=none:=I.hok.fresh (Nu _);have lt:∀{c o},s.heap.get? c=ar o->s.heap.objs.size≠c:=λe=>O3 (Ny e);refine⟨_,rfl,QZ a1 λS b1 T=>?_⟩;have B:q_ S TI (.ref N) (.ref O):=T.extBut _ _ D.TIz (p _ _ D.TIz D.TITO D.TIi1 D.TIi2 Y);have kk:∀b o,b∉[z,TI,TO,N,O]->s.heap.get? b=ar o->S.get? b=ar o:=λb o Z e=>by simp only[gg,e_,or_false,not_or]at Z;exact T.extBut _ _ Z.1 (p b o Z.1 Z.2.2.1 Z.2.2.2.1 Z.2.2.2.2 e)
  have r:q_ S s.heap.objs.size u1 u2:=T.extBut _ _ (lt R) a5;have I2:L2.Inv X pins σ (upd H s.heap.objs.size (.tup [C[i],J[i]])) {s with heap:=S,toks:=s.toks}:=yI (o:=.tup [C[i],J[i]]) I hf kk (Nu _) ⟨⟨by show 2<=sizeLine;decide,_,r,rfl⟩,[u1,u2],.cons b5 (.cons b2 .nil),_,r,rfl,_,rfl⟩;refine⟨.ref s.heap.objs.size,_,I2,rfl,
   ⟨_,_,_,d,Nw ga,Nw gb,rfl,rfl⟩,⟨b1,B,⟨_,_,T.extBut _ _ D.TOz a2⟩,a3.at λo e=>T.extBut _ _ D.i1z e,a4.at λo e=>T.extBut _ _ D.i2z e⟩,λb Z=>?_⟩
  obtain⟨ob,ho,_⟩:∃ob,s.heap.get? b=ar ob/\True:=by
   simp only[gg,e_,or_false]at Z;rcases Z with rfl|rfl|rfl|rfl|rfl
   ·exact⟨_,R,trivial⟩
   ·exact⟨_,Y,trivial⟩
   ·exact⟨_,U,trivial⟩
   ·obtain⟨o,e,_⟩:=G;exact⟨_,e,trivial⟩
   ·obtain⟨o,e,_⟩:=F;exact⟨_,e,trivial⟩
  rw[aM (NL (Ny ho))];exact(hf b Z).1
 done:=by intro X m hw hK hc i pins s σ H E I hf st hg;subst m hw hK;obtain⟨R,Y,⟨a,c,U⟩,G,F⟩:=st;obtain⟨gs,hH⟩:=hg;obtain⟨f,hB⟩:=(u H).mp hH;obtain⟨q,Q,j,_⟩:=I.tuple (.of f);obtain⟨t,L,n,_⟩:=I.tuple (.of hB);have e6:=Q.length;have e7:=L.length;refine Cg (I.ok.hd hc) D R Y U G F j n (gs.imp (λg=>by simp;omega) λg=>by simp;omega) λh' p=>⟨rfl,yH (t':=s.toks) I hf λb o Z e=>?_⟩;simp only[gg,e_,or_false,not_or]at Z;exact p b o Z.1 Z.2.2.1 Z.2.2.2.1 Z.2.2.2.2 e
 self:=λ_ _ _ _ _ st h=>Qs st.1 h
theorem zip_get{xs ys:List D}{i:Nat}{d:D}(h:((xs.zip ys).map λp=>D.tup [p.1,p.2])[i]? =ar d):∃x y,xs[i]? =ar x/\ys[i]? =ar y/\d= .tup [x,y]:=by
 rw[NP]at h;cases q:(xs.zip ys)[i]? with
 |none=>rw[q]at h;cases h
 |some p=>
  rw[q]at h;cases h;obtain⟨Y,Z⟩:=PC.mp q;exact⟨p.1,p.2,Y,Z,rfl⟩
theorem xv{K:dt}{ι:List b_}{H:Hp}{S:aB}{a b:b_}{X Y:List V}{xs ys:List D}(Z:Rep K ι H S)(G:H a=ar (.tup X))(I:H b=ar (.tup Y))(w:RelDs K ι H xs X)(B:RelDs K ι H ys Y):
  il K ⟨(xs.zip ys).map λp=>.tup [p.1,p.2],.none⟩ ⟨λi H=>(Ba X Y).go i H/\(H a=ar (.tup X)/\H b=ar (.tup Y)),(Ba X Y).yld,λi H=>(Ba X Y).stop i H/\(H a=ar (.tup X)/\H b=ar (.tup Y))⟩ ι H:=by
 intro T O t e rep2 ok i;have P:O a=ar (.tup X):=(e.oth a _ G (Z.notIn G (by intro _ z;cases z)) (by intro _ z;cases z) (by intro _ z;cases z)).1;have Q:O b=ar (.tup Y):=(e.oth b _ I (Z.notIn I (by intro _ z;cases z)) (by intro _ z;cases z) (by intro _ z;cases z)).1;have U:=w.laterN Z e;have R:=B.laterN Z e;have u:=U.length;have q:=R.length;refine⟨λd hd=>?_,λhlen=>?_⟩
 ·obtain⟨x,y,F,E,rfl⟩:=zip_get hd;have o:=(Nx.mp F).1;have s:=(Nx.mp E).1;refine⟨⟨⟨by omega,by omega⟩,P,Q⟩,?_⟩;rintro v H3 ⟨p,N,L,hp,g1,g2,rfl,rfl⟩;obtain⟨v1,e1,A⟩:=U.get' F;obtain⟨v2,e2,C⟩:=R.get' E;obtain rfl:v1=N:=NW (e1.symm.trans g1);obtain rfl:v2=L:=NW (e2.symm.trans g2);have J:Ext T O T (upd O p (.tup [v1,v2])):=fM hp;exact⟨J,gX rep2 hp,.tup bg (.cons (A.later rep2 J) (.cons (C.later rep2 J) .nil))⟩
 ·have r:min xs.length ys.length<=i:=by simpa using hlen
  refine⟨?_,P,Q⟩;rcases Nat.le_total xs.length ys.length with z|z
  ·exact .inl (by omega)
  ·exact .inr (by omega)
end S4
namespace S3
open PySem PySem.Spec PyProof.Rows L2 S4
abbrev mV(i:Nat):TM:=λρ=>GD ρ i
abbrev mK(d:D):TM:=λ_=>aw d
abbrev pV(m n:TM):TM:=λρ=>do let x<-m ρ;let c<-iZ x;if c=c_ then n ρ else aw (.bl dr)
abbrev KL(m:TM):TM:=λρ=>do let x<-m ρ;let c<-iZ x;aw (.bl (!c))
abbrev IC(t:aI->M Bool)(m n:TM):TM:=λρ=>do let k<-t ρ;if k=c_ then m ρ else n ρ
abbrev Eo:=aI->M (List D)
abbrev aq:Eo:=λ_=>aw []
abbrev ae(m:TM)(ms:Eo):Eo:=λρ=>do let x<-m ρ;let xs<-ms ρ;aw (x::xs)
abbrev jJ(ms:Eo):TM:=λρ=>do let ds<-ms ρ;cW ds
abbrev bb(ms:Eo):TM:=λρ=>do let ds<-ms ρ;bp ds
abbrev az(F:List D->M D)(ms:Eo):TM:=λρ=>do let ds<-ms ρ;F ds
abbrev cm(F:List D->M D)(m:TM):TM:=az F (ae m aq)
abbrev aP(f:D->D->M D)(m n:TM):TM:=λρ=>do let x<-m ρ;let y<-n ρ;f x y
abbrev ID(f g:D->D->M D)(m n l:TM):TM:=λρ=>do let x<-m ρ;let y<-n ρ;let z<-f x y;let k<-iZ z;if k=c_ then do let w<-l ρ;g y w else aw (.bl dr)
abbrev KM:=aI->M (Option Int)
abbrev oN:KM:=λ_=>aw none
abbrev oS(m:TM):KM:=λρ=>do let x<-m ρ;let i<-MW x;aw (ar i)
abbrev i3(m:TM)(lo hi:KM):TM:=λρ=>do let x<-m ρ;let i<-lo ρ;let j<-hi ρ;pB x i j
abbrev fq(m:TM)(T:String):TM:=λρ=>do let x<-m ρ;BY (λt=>iP t T) x
abbrev KN(m:TM)(T U:String):TM:=λρ=>do let x<-m ρ;BY (λt=>iP t T||iP t U) x
abbrev uS(f:D->List D->M D)(m n:TM):TM:=λρ=>do let x<-m ρ;Ib x;let ds<-(do let y<-n ρ;let ys<-aw [];aw (y::ys));f x ds
abbrev bF(mi:aI->M Iter)(g:nE)(t:aI->M Bool)(m:TM)(js:List (Option Nat)):TM:=λρ=>do let it<-mi ρ;let ys<-fN it g t m (ky js ρ);bp ys
abbrev i4:=aI->M Bool
abbrev bV(m:TM):i4:=λρ=>do let x<-m ρ;iZ x
abbrev eF(f:D->D->M D)(m n:TM):i4:=λρ=>do let z<-(do let x<-m ρ;let y<-n ρ;f x y);iZ z
abbrev gG(f g:D->D->M D)(m n l:TM):i4:=λρ=>do let v<-(do let x<-m ρ;let y<-n ρ;let z<-f x y;let k<-iZ z;if k=c_ then do let w<-l ρ;g y w else aw (.bl dr));iZ v
abbrev oF(f g h:D->D->M D)(m n l k:TM):i4:=λρ=>do
 let x<-m ρ;let y<-n ρ;let z<-f x y;let i<-iZ z
 if i=c_ then do
  let w<-l ρ;let z2<-g y w;let j<-iZ z2
  if j=c_ then do
   let v<-k ρ;let z3<-h w v
   iZ z3
  else aw dr
 else aw dr
abbrev cA(t:i4):i4:=λρ=>do let c<-t ρ;aw (!c)
abbrev xw(t u:i4):i4:=λρ=>do let c<-t ρ;if c=c_ then u ρ else aw dr
abbrev mW(t u:i4):i4:=λρ=>do let c<-t ρ;if c=c_ then aw c_ else u ρ
abbrev ma:i4:=λ_=>aw c_
abbrev vA(m:TM):aI->M Iter:=λρ=>do let ds<-ae m aq ρ;kN ds
abbrev GL(m n:TM):aI->M Iter:=λρ=>do let ds<-ae m (ae n aq) ρ;j9 ds
abbrev dM(m:TM):aI->M Iter:=λρ=>do let x<-m ρ;KF x
abbrev gN(i:Nat):nE:=λd ρ=>aw (ρ.set i (ar d))
abbrev LK(m n:TM):nE:=λd ρ=>do let x<-m ρ;let y<-n ρ;jE x y d;aw ρ
abbrev dN:du:=λρ=>aw (.nx ρ)
abbrev aG(m n:du):du:=λρ=>do let o<-m ρ;BF o n
abbrev vB(me:TM):du:=λρ=>do let _<-me ρ;aw (.nx ρ)
abbrev bM(me:TM):du:=λρ=>do let d<-me ρ;aw (.ret d)
abbrev iU(t:i4)(m n:du):du:=λρ=>do let c<-t ρ;if c=c_ then m ρ else n ρ
abbrev bx(i:Nat)(me:TM):du:=λρ=>do let d<-me ρ;aw (.nx (ρ.set i (ar d)))
abbrev rD(me:TM)(g:nE):du:=λρ=>do let d<-me ρ;let ρ'<-g d ρ;aw (.nx ρ')
abbrev Fe(i j:Nat)(ms:Eo):du:=λρ=>do let ds<-ms ρ;match ds with|[d1,d2]=>aw (.nx ((ρ.set i (ar d1)).set j (ar d2)))|_=>M.fail
abbrev kz(mi:aI->M Iter)(g:nE)(b:du):du:=λρ=>do let it<-mi ρ;fc it g b it.items ρ
abbrev IE(k:Nat)(t:i4)(b:du):du:=λρ=>jF t b k ρ
structure DefIs(P:eb)(w:er)(K:dt)(mg:Str->Option aC)(base:fg)(k:Nat)(x:Str)(ps:List Str)(F:List D->M D):Prop where
 ex:∃f fd,FnOk P w K mg base Na k f fd ps (Nd K F)/\mg x=ar (.ref f)/\A_ K (.ref f)=c_/\Binds K fd ps []
section
variable {X:Cx}{E:XD}{e:Expr}{es:List Expr}{pos:Pos}{ms:Eo}
theorem aD{c j p}:dV (.Constant c j p::es) env=(dr,g6 (.Constant c j p) env)::dV es env:=rfl
theorem pW{l k p}:dV (.Tuple l k p::es) env=(dr,g6 (.Tuple l k p) env)::dV es env:=rfl
theorem Ff{l p}:dV (.List l p::es) env=(dr,g6 (.List l p) env)::dV es env:=rfl
theorem aE{x p}:dV (.Name x p::es) env=(dr,g6 (.Name x p) env)::dV es env:=rfl
theorem aX{f l k p}:dV (.Call f l k p::es) env=(dr,g6 (.Call f l k p) env)::dV es env:=rfl
theorem cC{a o b p}:dV (.BinOp a o b p::es) env=(dr,g6 (.BinOp a o b p) env)::dV es env:=rfl
theorem bf{a b p}:dV (.Subscript a b p::es) env=(dr,g6 (.Subscript a b p) env)::dV es env:=rfl
theorem Fg{a b p}:dV (.Dict a b p::es) env=(dr,g6 (.Dict a b p) env)::dV es env:=rfl
theorem xx{a b p}:dV (.UnaryOp a b p::es) env=(dr,g6 (.UnaryOp a b p) env)::dV es env:=rfl
theorem pX{j p}:SE X E (.UnaryOp .USub (.Constant (.int i) j p) pos) (mK (.int (-i))):=by refine PE.imp (Kf HG Bd) λσ H Q h=>?_;obtain⟨ι,S,ρ,rep,re,c⟩:=h;exact⟨i,rfl,ah c .refl rep _ (.int _)⟩
theorem vC(Z:Gl X x)(W:∃t,X.mg x=ar (.int i t))(Y:(x==("__debug__":Str))=false:=by decide):SE X E (.Name x pos) (mK (.int i)):=
 let ⟨_,h⟩:=W
 EU Z h Y
def KO(fs:Scope)(N:List Str)(scope:Scope)(Nc:List Str)(js:List (Option Nat)):Bool:=
 (scope.kind== .function) && scope.names.all (λy=>y.2 != .cell||scope.names.lookup y.1==ar .cell) && scope.names.all (λy=>y.2 != .local||scope.names.lookup y.1==ar .local) &&
  scope.names.all (λy=>y.2 != .free||(fs.names.lookup y.1==ar .cell||fs.names.lookup y.1==ar .free)) && (js.length==Nc.length) &&
  (Nc.zip js).all (λp=>match p.2 with|none=>c_|some j=>N[j]? ==ar p.1 && scope.names.lookup p.1==ar .free)
theorem mX(Y:Scope)(N:List Str)(P:∀x,X.env.kindOf x=Y.names.lookup x)(T:X.N=N)(h:KO Y N scope Nc js=c_):CompScope X scope Nc js:=by
 unfold KO at h;simp only[hO,rb,beq_iff_eq,bne_iff_ne,G_]at h;obtain⟨⟨⟨⟨⟨W,L⟩,O⟩,S⟩,Q⟩,R⟩:=h;refine⟨W,λy Z e=>(L y Z).resolve_left λz=>z e,λy Z e=>(O y Z).resolve_left λz=>z e,λy Z e=>?_,Q,λi x j e1 e2=>?_⟩
 ·rw[P];exact(S y Z).resolve_left λz=>z e
 ·have U:(Nc.zip js)[i]? =ar (x,ar j):=PC.mpr ⟨e1,e2⟩;have:=R _ (NU U);simp only[hO,beq_iff_eq]at this;rw[T];exact this
theorem fJ(Z:Room k A):A.units+64<cLine:=by have:=Z.un;omega
theorem MX(Z:Room k A):A.units+8<cLine:=by have:=Z.un;omega
theorem IF(Z:Room k A):A.units<cLine:=by have:=Z.un;omega
end
section
variable {P:eb}{w:er}{K:dt}{mg:Str->Option aC}{base:fg}
end
def runs{α:Type}(c:M α)(S:aB)(Q:α->aB->Prop):Prop:=∃a S',c S=ar (.ok a,S')/\Q a S'
section
variable {α β:Type}{c:M α}{f:α->M β}{S:aB}{Q Q':α->aB->Prop}{R:β->aB->Prop}
theorem ua(h:c S=ar (.ok a,S1)):runs c S Q↔Q a S1:=by
 constructor
 ·rintro⟨a',S',e,q⟩;rw[h]at e;cases e;exact q
 ·exact λq=>⟨a,S1,h,q⟩
theorem Fh(h:c S=none):runs c S Q↔False:=by
 constructor
 ·rintro⟨a',S',e,q⟩;rw[h]at e;cases e
 ·exact λq=>q.elim
theorem su(h:runs c S Q)(k:∀a S',Q a S'->Q' a S'):runs c S Q':=let ⟨a,S',e,q⟩:=h;⟨a,S',e,k a S' q⟩
end
section
variable {S:aB}{Q:D->aB->Prop}
theorem AD:runs (bp ds) S Q↔ds.length<=lim/\Q (.lst S.length) (S++[ds]):=by
 by_cases h:ds.length<=lim
 ·rw[ua (by unfold bp;rw[if_pos h])];simp[h]
 ·rw[Fh (by unfold bp;rw[if_neg h])];simp[h]
theorem eP{f:o_->o_->Bool}(Y:gm S 60 a=ar p)(Z:gm S 60 b=ar q):runs (JR f a b) S Q↔Q (.bl (f p q)) S:=by rw[ua (by unfold JR;rw[Y,Z])]
theorem ub(X:gm S 60 a=ar p)(Y:gm S 60 b=ar q)(Z:Mz f p q=ar r):runs (Ky f a b) S Q↔Q (.bl r) S:=by rw[ua (by unfold Ky;rw[X,Y];simp only[Z];rfl)]
end
end S3
namespace S7
open PySem PySem.Spec PySem.W PyProof.Rows
section
variable {prog:eb}{w:er}{A:g_}{E:aC->a_->Prop}{s:a_}{K:Uj}{x C:b_}{ox:Obj}{od:Option Obj}{name:Str}
theorem yJ:Slot "BaseException" "__getattribute__" "BaseException.__getattribute__":=
 .of (owner:="BaseException") (n:="__getattribute__") (by rw[Rv,Ql];kernel_rfl) (by decide+kernel) (by decide+kernel) (by decide+kernel)
  (by first|exact .inl (by decide+kernel)|exact .inr (by decide+kernel)) (by rw[Qg];kernel_rfl)
theorem Cj{M:SK}{Z:aC}{Q:Unit->a_->Prop}(X:K.In s.heap)(I:F0 s.heap x ox C od)(U:Tr K C (.type "BaseException")=ar c_)(h:Q () s):
  d_ M A (RK "BaseException.__getattribute__" ⟨[.ref x,Z],[]⟩) Q E s:=by
 have P:builtinKind "BaseException.__getattribute__"=ar .slot:=by decide+kernel
 have Y:splitId "BaseException.__getattribute__"=ar ("BaseException","__getattribute__"):=by decide+kernel
 have R:=I.type (M:=M);have L1:=looks_mroIn (M:=M) X U;have O:=F.args_bexc_ga (.ref x) Z;obtain⟨S,g,d,t,os⟩:=s;have T:Looks M S (isInstance (.ref x) (.type "BaseException")) true:=R.andThen L1;simp only[RK,P,Y];refine Np (T.at ?_)
 repeat (first|wp_step)
 exact h
theorem Ck{Y Z:Bool}{O:Tok}{Q:aC->a_->Prop}(X:K.In s.heap)(I:F0 s.heap x ox C od)(S:H_ K (.ref C) "__getattribute__"=ar (ar (.builtin "BaseException.__getattribute__")))
  (R:H_ K (.ref C) "__getattr__"=ar none) (N:Tr K C (.type "BaseException")=ar c_)
  (h:d_ (eK prog w) A.in1 (Builtin.«object.__getattribute__» ⟨[.ref x,.str name O],[]⟩)
   (λfin s'=>match fin with| .done (.ret v)=>d_ (eK prog w) A (handedOut v) Q E s'|_=>False) (λ_ _=>False) s):
  d_ (eK prog w) A (getAttrBy (.ref x) (.str name O) Y Z) Q E s:=by
 obtain⟨J,g,d,t,os⟩:=s;have L:=I.type (M:=eK prog w);have L1:=looks_findIn (M:=eK prog w) X S;have L2:=looks_findIn (M:=eK prog w) X R;have T:(Z && Tt (E1 "BaseException.__getattribute__"))=false:=by cases Z<;>rfl
 have P:(E1 "BaseException.__getattribute__"==E1 "object.__getattribute__")=false:=by decide+kernel
 have U:(Tt (ee C) && E1 "BaseException.__getattribute__"==E1 "object.__getattribute__")=false:=by rw[P,QV]
 unfold getAttrBy;refine Ov (Np (L.at (Np (L1.at ?_))));dsimp only;rw[U];simp only[eo,if_false];unfold getAttrByItsOwn hookBefore;rw[if_pos (show Tt (ee C)=c_ from rfl)];refine Np (L2.at ?_);unfold callGetattribute;rw[T];simp only[eo,if_false];refine Np (P1 (Ov ?_));unfold boundAndCalled;rw[yJ.bind];refine Np (Nv ?_);refine Q3 (codeAny_call_builtin yJ.plain F.entry_bexc_ga (Cj X I N (OM h (λfin s' z=>?_) λ_ _ z=>z.elim)));rcases fin with(_|_|_|_)|_<;>first|exact z|exact z.elim
theorem pY{g a:aC}{Z:Tok}{P:aC->a_->Prop}(X:K.In s.heap)(I:F0 s.heap x ox C od)(U:Tw K C od name=ar (.bind g a))
  (h:d_ (eK prog w) A (call g [a,.ref x,.ref C]) P E s):
  d_ (eK prog w) A (Builtin.«object.__getattribute__» ⟨[.ref x,.str name Z],[]⟩) (λfin s'=>match fin with| .done (.ret v)=>P v s'|_=>False) E s:=by
 obtain⟨S,T,d,t,os⟩:=s;have Y:=I.type (M:=eK prog w);have L1:=looks_find (M:=eK prog w) X I U;refine Np (Nv (Np (Nv (Np (Y.at (Np (L1.at ?_)))))));show d_ _ _ (J' [a] (call g [a,.ref x,.ref C])>>=ret) _ _ _;exact Np (Ov (OM h (λv s' z=>Nv z) λ_ _ z=>z))
theorem rE{v:aC}{Z:Tok}{P:aC->a_->Prop}(X:K.In s.heap)(I:F0 s.heap x ox C od)(U:Tw K C od name=ar (.value v))(h:P v s):
  d_ (eK prog w) A (Builtin.«object.__getattribute__» ⟨[.ref x,.str name Z],[]⟩) (λfin s'=>match fin with| .done (.ret v)=>P v s'|_=>False) E s:=by
 obtain⟨S,T,d,t,os⟩:=s;have Y:=I.type (M:=eK prog w);have L1:=looks_find (M:=eK prog w) X I U;refine Np (Nv (Np (Nv (Np (Y.at (Np (L1.at ?_)))))));exact Nv h
structure ExcC(K:Uj)(C:b_):Prop where
 ga:H_ K (.ref C) "__getattribute__"=ar (ar (.builtin "BaseException.__getattribute__"))
 gt:H_ K (.ref C) "__getattr__"=ar none
 be:Tr K C (.type "BaseException")=ar c_
 ob:Tr K C (.type "object")=ar c_
 cl:H_ K (.ref C) "__class__"=ar (ar (.builtin "object.__class__"))
 gs:specialIn K (.builtin "object.__class__") "__get__"=ar (ar (.builtin "getset_descriptor.__get__"))
 tk:takesIn K (.builtin "object.__class__")=ar c_
 cd:(Ui K C).isSome=c_
 mf:H_ K (.ref C) "many"=ar none
 ms:H_ K (.ref C) "most"=ar none
def Cm(K:Uj)(C:b_):Bool:=(H_ K (.ref C) "__getattribute__"==ar (ar (.builtin "BaseException.__getattribute__"))) && (H_ K (.ref C) "__getattr__"==ar none) && (Tr K C (.type "BaseException")==ar c_) &&
 (Tr K C (.type "object")==ar c_) && (H_ K (.ref C) "__class__"==ar (ar (.builtin "object.__class__"))) && (specialIn K (.builtin "object.__class__") "__get__"==ar (ar (.builtin "getset_descriptor.__get__"))) &&
 (takesIn K (.builtin "object.__class__")==ar c_) && (Ui K C).isSome && (H_ K (.ref C) "many"==ar none) && (H_ K (.ref C) "most"==ar none)
theorem ExcC.of(h:Cm K C=c_):ExcC K C:=by unfold Cm at h;simp only[hO,beq_iff_eq]at h;obtain⟨⟨⟨⟨⟨⟨⟨⟨⟨W,Q⟩,U⟩,T⟩,Y⟩,R⟩,P⟩,X⟩,S⟩,Z⟩:=h;exact⟨W,Q,U,T,Y,R,P,X,S,Z⟩
theorem AE{Q:Option aC->a_->Prop}(c:ExcC K C)(X:K.In s.heap)(I:F0 s.heap x ox C od)(h:Q (ar (.ref C)) {s with toks:=s.toks+1}):d_ (eK prog w) A (getAttr? (.ref x) "__class__") Q E s:=by
 have hf:Tw K C od "__class__"=ar (.bind (.builtin "getset_descriptor.__get__") (.builtin "object.__class__")):=by obtain⟨cd,Z⟩:=OH.mp c.cd;unfold Tw;rw[Z,Ph,c.cl,Ph];simp[c.gs,c.tk]
 unfold getAttr? getAttrBy?;refine Np (wpAny_mkText (Np (P1 (Ck (s:={s with toks:=s.toks+1}) X I c.ga c.gt c.be ?_))));refine pY (s:={s with toks:=s.toks+1}) X I hf ?_;exact Q3 (class_get (s:={s with toks:=s.toks+1}) (ox:=ox) (od:=od) X I c.ob (handed_on rfl (Nv h)))
theorem Cn(c:ExcC K C):KitX K (.ref x) (.ref C) (λh=>∃ox od,F0 h x ox C od) where
 ty:=λ_ _ _ ⟨_,_,I⟩=>I.type
 it:=λ_ _ X _=>by
  have Z:=c.cd;unfold Ui at Z;split at Z
  ·rename_i c' d' cd' sl' ho
   intro S T R s' k q;unfold isType loadHead;exact Np (wpAny_loadPart (k _ _ (X _ _ ho)) (Nv q))
  ·cases Z
 ne:=λh tp dd its n U X Y=>by
  have Z:=c.cd;refine Q9.mpr λq=>?_;have e:C=tp:=Value.ref.inj (beq_iff_eq.mp q);subst e;unfold Ui at Z;split at Z
  ·rename_i c' d' cd' sl' ho
   have z:=(X _ _ ho).symm.trans Y;cases z
  ·cases Z
 ca:=λX ⟨_,_,I⟩ k=>AE c X I k
end
end S7
namespace S7
open PySem PySem.Spec PyProof.Rows L2 S3
def Co(e T C:b_)(od:Option b_)(fl:aC)(h:fg):Prop:=
 ∃oe vs oT ts,h.get? e=ar oe/\oe.cls= .ref C/\oe.dict=od/\oe.data= .fields vs/\vs[1]? =ar (.ref T)/\T≠e/\h.get? T=ar oT/\oT.data= .fields ts/\ts[3]? =ar fl
structure Step(fs:List b_)(e T:b_)(h h':fg):Prop where
 keep:∀b o,h.get? b=ar o->b≠e->b≠T->b∉fs->h'.get? b=ar o
 slot:∀b o,h.get? b=ar o->b≠e->b≠T->∃sl,h'.get? b=ar {o with slots:=sl}
 size:h.objs.size<=h'.objs.size
section
variable {M:SK}{A:g_}{E:aC->a_->Prop}{s:a_}{base:fg}{env:Env}{outer:List Env}{L e T C:b_}{od:Option b_}{fl:aC}{Q:Unit->a_->Prop}
theorem pZ(o:Obj)(f:Array aC->Array aC):(EW f o).dict=o.dict:=by obtain⟨c,d,Z,Y⟩:=o;cases Z<;>rfl
theorem entry(K:A.frames=ar (env::outer))(G:s.heap.FunFrames base (env::outer))(v:env.frame=ar L)
  (F:s.heap.get? e=ar oe) (x:oe.cls= .ref C) (w:oe.dict=od) (I:oe.data= .fields vs) (W:1<vs.size)
  (h:∀h' T',Co e T' C od (mv L) h'->s.heap.objs.size<=T'->Step (jw (env::outer)) e e s.heap h'->Q () {s with heap:=h'}):
  d_ M A (do let a<-frameOf env;let N<-entryPlaceOf L hadNext;let b<-EntryCells.newEntry head a .none (mv L) .none N;setField (.ref e) 1 b) Q E s:=by
 have X:e∉jw (env::outer):=λhm=>by obtain⟨_,o,q,J⟩:=G.mem hm;rw[F]at q;cases q;exact J vs I
 refine Np (wpAny_frameOf_fun K G v λY Z=>Np (wpAny_entryPlaceOf λN O=>?_));unfold EntryCells.newEntry newFields;refine Np (Og (?_ :d_ _ _ _ _ _ _) (O.sizeOk5 _ _ _ _ _));have U:Y.get? e=ar oe:=(Z.2.1 e X).trans F;have P:=Nq (h:=Y) {cls:=.type "traceback",dict:=none,data:=.fields ([head,.ref L,.none,mv L,.none]++(if N.isEmpty then k_ 6 hY else N)).toArray} U;have S:Y.objs.size≠e:=O3 (Ny U);have R:=OT I (·.setIfInBounds 1 (ee Y.objs.size));refine Pl P I W (h _ Y.objs.size ⟨_,_,_,_,Oy _ P (Px R),?_,?_,R,by simp[W],S,(Oa _ _ (j' S)).trans (NA Y rfl),rfl,?_⟩ (PR Z.1.symm) ⟨λb o q H _ y=>?_,λb o q H _=>?_,?_⟩)
 ·rw[Rb];exact x
 ·rw[pZ];exact w
 ·first|(simp;done)|(rcases O with rfl|⟨_,_,_,_,_,_,_,rfl⟩<;>simp)
 ·rw[Oa _ _ (j' H)];exact Nq _ ((Z.2.1 b y).trans q)
 ·obtain⟨B,z⟩:=Z.2.2 b o q;exact⟨B,by rw[Oa _ _ (j' H)];exact Nq _ z⟩
 ·rw[Pm,OI,Z.1];exact P9 _
theorem xy(Z:A.frames=ar (env::outer))(P:s.heap.FunFrames base (env::outer))(U:env.frame=ar L)
  (Y:s.heap.get? e=ar oe) (R:oe.cls= .ref C) (S:oe.dict=od) (X:oe.data= .fields vs) (W:vs[1]? =ar .none)
  (h:∀h' T',Co e T' C od (mv L) h'->s.heap.objs.size<=T'->Step (jw (env::outer)) e e s.heap h'->Q () {s with heap:=h'}):d_ M A (R9 (.ref e) env) Q E s:=by
 unfold R9;simp only[U];refine Np (Ox Y X W ?_);rw[if_neg (by decide)];exact entry Z P U Y R S X (NR.mp W).1 h
theorem sv(U:A.frames=ar (env::outer))(v:s.heap.FunFrames base (env::outer))(I:env.frame=ar L)(F:Co e T C od .none s.heap)
  (h:∀h' X,Co e X C od (mv L) h'->s.heap.objs.size<=X->Step (jw (env::outer)) e T s.heap h'->Q () {s with heap:=h'}):d_ M A (R9 (.ref e) env) Q E s:=by
 obtain⟨u,vs,t,K,he,B,y,hd,H,N,S,Z,J⟩:=F;have O:3<K.size:=(NR.mp J).1;unfold R9;simp only[I];refine Np (Ox he hd H ?_);rw[if_pos (show(ee T !=hY)=c_ from by simp)];refine Np (Ox S Z J ?_);rw[if_neg (show ¬ ((hY==mv L)=c_)from by simp[mv])];refine Np (Pl S Z O ?_);have other:∀b,b≠T->(s.heap.update T (EW (·.setIfInBounds 3 hY))).get? b=s.heap.get? b:=λb x=>Oa _ _ (j' x);have W:(s.heap.update T (EW (·.setIfInBounds 3 hY))).FunFrames base (env::outer):=v.of_keeps λb o q P=>⟨o,(other b λz=>by rw[z,S]at q;cases q;exact P K Z).trans q,rfl⟩;refine entry (s:={s with heap:=s.heap.update T (EW (·.setIfInBounds 3 hY))}) U W I ((other e (j' N)).trans he) B y hd (NR.mp H).1 λh' X w l st=>h h' X w ?_ ⟨λb o q Y R G=>st.keep b o ((other b R).trans q) Y Y G,λb o q Y R=>st.slot b o ((other b R).trans q) Y Y,?_⟩
 ·have:=l;rwa [Pm]at this
 ·have:=st.size;rwa [Pm]at this
theorem hU(F:Co e T C od fl s.heap)(h:∀h',Co e T C od .none h'->Step [] e T s.heap h'->Q () {s with heap:=h'}):d_ M A (setFlight (.ref e) none) Q E s:=by
 obtain⟨R,vs,I,O,he,P,N,hd,U,X,S,Z,J⟩:=F;have Y:3<O.size:=(NR.mp J).1;refine wpAny_setFlight_none he hd U S Z Y (h _ ⟨R,vs,_,_,(Oa _ _ X).trans he,P,N,hd,U,X,Oy _ S (Px (OT Z _)),OT Z _,by simp[Y]⟩
  ⟨λb o q K W _=>(Oa _ _ (j' W)).trans q,λb o q K W=>⟨o.slots,(Oa _ _ (j' W)).trans q⟩,?_⟩)
 rw[Pm];exact Nu _
theorem vD(U:A.frames=ar (env::outer))(J:s.heap.FunFrames base (env::outer))(B:env.frame=ar L)
  (I:s.heap.get? e=ar oe) (K:oe.cls= .ref C) (H:oe.dict=od) (G:oe.data= .fields vs) (P:vs[1]? =ar .none)
  (h:∀h' X,Co e X C od .none h'->s.heap.objs.size<=X->Step (jw (env::outer)) e e s.heap h'->Q () {s with heap:=h'}):d_ M A (R6 env (.ref e)) Q E s:=by
 unfold R6;refine Np (xy U J B I K H G P λh' X F l st=>hU (s:={s with heap:=h'}) F λW z Z=>h W X z l ⟨λb o q Y S N=>?_,λb o q Y S=>?_,Nz st.size Z.size⟩)
 ·exact Z.keep b o (st.keep b o q Y Y N) Y (NL (NK (Ny q) l)) (by simp)
 ·obtain⟨R,O⟩:=st.slot b o q Y Y;exact⟨R,Z.keep b _ O Y (NL (NK (Ny q) l)) (by simp)⟩
theorem xA(S:A.frames=ar (env::outer))(N:s.heap.FunFrames base (env::outer))(K:env.frame=ar L)(F:Co e T C od .none s.heap)
  (h:∀h' X,Co e X C od .none h'->s.heap.objs.size<=X->Step (jw (env::outer)) e T s.heap h'->Q () {s with heap:=h'}):d_ M A (R6 env (.ref e)) Q E s:=by
 unfold R6;refine Np (sv S N K F λh' X F l st=>hU (s:={s with heap:=h'}) F λU J Z=>h U X J l ⟨λb o q Y W O=>?_,λb o q Y W=>?_,Nz st.size Z.size⟩)
 ·exact Z.keep b o (st.keep b o q Y W O) Y (NL (NK (Ny q) l)) (by simp)
 ·obtain⟨R,P⟩:=st.slot b o q Y W;exact⟨R,Z.keep b _ P Y (NL (NK (Ny q) l)) (by simp)⟩
end
def oG(P:eb)(w:er):A9:=λouter H s E x s'=>
 ∃(e T C:b_) (od:Option b_) (H':Hp),x= .ref e/\s'.os=s.os/\D' s'.gens/\Un (jw outer) [] H H' s.heap s'.heap/\gh P w H' s'.heap/\Co e T C od .none s'.heap/\
  H' e=none/\H' T=none/\s.heap.get? e=none/\s.heap.get? T=none/\E (.ref C) od H'
theorem AF{X:Cx}:oU (oG X.prog X.w) X E0:=λ_ _ _ _ _ _ _ ⟨_,_,_,_,_,_,_,_,_,_,_,_,_,_,_,h⟩=>h.elim
theorem hV{h:fg}(q:h.get? b=ar o)(n:h.get? e=none):b≠e:=λz=>by rw[z,n]at q;cases q
theorem Un.fly(u:Un fs [] H H' h h1)(st:Step fs e T h1 h2)(W:h.get? e=none)(U:h.get? T=none):Un fs [] H H' h h2 where
 keep:=λb o q n hf Z=>st.keep b o (u.keep b o q n hf Z) (hV q W) (hV q U) hf
 slot:=λb o q n hf Z=>by obtain⟨R,S⟩:=u.slot b o q n hf Z;obtain⟨Y,X⟩:=st.slot b _ S (hV q W) (hV q U);exact⟨Y,X⟩
 free:=u.free
 there:=λb o q Z=>by obtain⟨o1,S⟩:=u.there b o q Z;obtain⟨Y,X⟩:=st.slot b _ S (hV q W) (hV q U);exact⟨_,X⟩
 tups:=u.tups
 frzs:=u.frzs
 tbls:=u.tbls
theorem gh.fly{H:Hp}(W:gh P w H h1)(st:Step fs e T h1 h2)(Y:H e=none)(X:H T=none)(U:∀b∈fs,H b=none):gh P w H h2:=λa o q=>by
 have k:∀b u,H b≠none->h1.get? b=ar u->h2.get? b=ar u:=λb u n q=>st.keep b u q (λz=>n (by rw[z];exact Y)) (λz=>n (by rw[z];exact X)) λz=>n (U b z);refine(W a o q).stay (λb u Z=>k b u ?_) (λ_ z=>z) λ_ _ z=>z;rcases Z with rfl|Z
 ·rw[q];simp
 ·rw[Z];simp
section
theorem vE(l:List Env)(x:b_)(env:Env)(h:env.frame=ar x):jw (env::l)=x::jw l:=by unfold jw;rw[Ol,h]
theorem bh.there(x:bh P w H h a o):∃Z,h.get? a=ar Z:=by
 cases o with
 |lst xs=>obtain⟨_,_,_,_,e⟩:=x;exact⟨_,e⟩
 |tup xs=>obtain⟨_,_,_,Z,e,_⟩:=x;exact⟨_,e⟩
 |dK kvs=>obtain⟨_,_,_,_,o,_,_,e,_⟩:=x;exact⟨_,e⟩
 |dT kvs=>obtain⟨_,_,_,_,o,_,_,e,_⟩:=x;exact⟨_,e⟩
 |set S n=>obtain⟨o,_,_,_,e,_⟩:=x;exact⟨_,e⟩
 |ins C dx fs=>obtain⟨_,_,_,e,_⟩:=x;exact⟨_,e⟩
 |own y=>exact x
 |xd fs=>obtain⟨_,⟨_,_,_,e,_⟩,_⟩:=x;exact⟨_,e⟩
 |rng lo hi=>obtain⟨_,_,_,e⟩:=x;exact⟨_,e⟩
 |frz Z u=>obtain⟨e,_⟩:=x;exact⟨_,e⟩
 |tbl ps=>exact⟨_,(show h.get? a=ar _ from x)⟩
 |met f y=>exact⟨_,(show h.get? a=ar _ from x)⟩
 |ext φ=>exact x.2.1
theorem gh.gone{H:Hp}(x:gh P w H h)(e:h.get? a=none):H a=none:=by
 cases q:H a with
 |none=>rfl
 |some o=>
  obtain⟨Z,e2⟩:=bh.there (x a o q);rw[e]at e2;cases e2
theorem Un.gone(u:Un fs ex H H' h h')(Z:a∉ex)(e:h'.get? a=none):h.get? a=none:=by
 cases q:h.get? a with
 |none=>rfl
 |some o=>
  obtain⟨Y,e2⟩:=u.there a o q Z;rw[e]at e2;cases e2
end
abbrev Cx.hand(X:Cx)(e:aC):Cx:={X with A:=X.A.mark (ar e),calm:=dr,xe:=λ_ _=>False}
section
variable {X:Cx}{pins:List (b_×Obj)}{σ:L2.St}{H H':Hp}{s:a_}{x:aC}
theorem Inv.hand(I:Inv X pins σ H s)(e:aC):Inv (Cx.hand X e) pins σ H s:=
 ⟨⟨I.ok.mod,I.ok.kind,I.ok.glob,I.ok.blt,I.ok.above,I.ok.inj,I.ok.has,I.ok.cab,(λz=>Bool.noConfusion z),I.ok.frames,I.ok.stk,I.ok.exf,I.ok.bs,I.ok.bsz,I.ok.noex,I.ok.exfs,I.ok.funs,I.ok.frf⟩,
  I.os,I.bare,I.base,I.loc,I.cell,I.free,I.freeC,I.pin,I.hok,I.len⟩
theorem Inv.unhand(Z:X.Ok)(I:Inv (Cx.hand X x) pins σ H s):Inv X pins σ H s:=⟨Z,I.os,I.bare,I.base,I.loc,I.cell,I.free,I.freeC,I.pin,I.hok,I.len⟩
theorem Inv.local{Z:L2.St}(I:Inv X pins σ H s)(hs:s_ X.env.locals s.heap h')(O:h'.Ns X.env.locals m')(U:Z.length=X.N.length)
  (Q:∀(i:Nat) (y:Str) (v:V),X.N[i]? =ar y->Z[i]? =ar (ar v)->Gv X.env.scope y->∃u,RelV v u/\Look X.env h' m' y u):Inv X pins Z H {s with heap:=h',toks:=t'}:=by
 have ne:∀b o,X.s₀.heap.get? b=ar o->b≠X.env.locals:=λb o e=>NL (NK (Ny e) I.ok.above);refine⟨I.ok,I.os,I.bare,⟨λb o e n T W=>(hs.2 b (ne b o e)).trans (I.base.keep b o e n T W),λb o e n T W=>?_,I.base.free,λb o e W=>?_,I.base.tups,I.base.frzs,I.base.tbls⟩,⟨m',O,Q⟩,λy c e=>?_,I.free,I.freeC,λp P=>?_,λa o e=>?_,U⟩
 ·obtain⟨S,e1⟩:=I.base.slot b o e n T W;exact⟨S,(hs.2 b (ne b o e)).trans e1⟩
 ·obtain⟨R,e1⟩:=I.base.there b o e W;exact⟨R,(hs.2 b (ne b o e)).trans e1⟩
 ·obtain⟨v,z⟩:=I.cell y c e;exact⟨v,z.sameBut hs (I.cne y c e)⟩
 ·obtain⟨e,n,nl,r⟩:=I.pin p P;exact⟨(hs.2 p.1 nl).trans e,n,nl,r⟩
 ·refine(I.hok a o e).stay (λc L Y q=>(hs.2 c ?_).trans q) (λ_ q=>q) λ_ _ q=>q;rintro rfl;rcases Y with Y|Y
  ·subst Y;rw[I.free]at e;cases e
  ·rw[I.free]at Y;cases Y
theorem Fi{M:SK}{A:g_}{E:aC->a_->Prop}{i:Nat}{y:Str}{pos:Pos}{Q:Unit->a_->Prop}(I:Inv X pins σ H s)(W:X.N.Nodup)(T:X.N[i]? =ar y)(O:X.env.scope.names.lookup y=ar .local)
  (h:∀s',Inv X pins (σ.set i none) H s'->Q () s'):d_ M A (do Sj X.env y .none;unbindBehindTheSuite X.env y pos) Q E s:=by
 obtain⟨m,S,U⟩:=id I.loc;refine wpAny_nameGoes_keeps O S (by rw[I.ok.kind];rfl) λh' v Z hs=>h _ (Inv.local I hs Z (by rw[PY];exact I.len) λj z R e1 e2 P=>?_);have Y:j≠i:=by
  rintro rfl;by_cases hlt:j<σ.length
  ·rw[N9 hlt]at e2;cases e2
  ·rw[Oj (by rw[PY];omega)]at e2;cases e2
 rw[Ou (j' Y)]at e2;obtain⟨u,r,q⟩:=U j z R e1 e2 P;refine⟨u,r,?_⟩;rcases q with⟨k,e⟩|⟨k,c,e,q⟩
 ·refine .inl ⟨k,?_⟩;have:z≠y:=λe=>Y (oQ W e1 (e ▸ T));simp[this,e]
 ·exact .inr ⟨k,c,e,q.sameBut hs (I.cne z c e)⟩
end
theorem Un.track{Y:Hp}(u:Un fs [] H Y h h')(Z:Y e=none)(W:h.get? e=none):Un fs [] H (upd Y e o) h h' where
 keep:=u.keep
 slot:=u.slot
 free:=λb X q n T=>by rw[aM (hV q W)];exact u.free b X q n T
 there:=u.there
 tups:=λb xs q=>by have:=u.tups b xs q;rw[aM (aN this Z)];exact this
 frzs:=λb X x q=>by have:=u.frzs b X x q;rw[aM (aN this Z)];exact this
 tbls:=λb U q=>by obtain⟨more,this⟩:=u.tbls b U q;exact⟨more,by rw[aM (aN this Z)];exact this⟩
theorem gh.track{H:Hp}(X:gh P w H h)(Y:H e=none)(Z:bh P w (upd H e o) h e o):gh P w (upd H e o) h:=λb u q=>by
 by_cases hb:b=e
 ·subst hb;rw[bg]at q;cases q;exact Z
 ·rw[aM hb]at q;exact(X b u q).stay (λc v _ q=>q) (λc q=>by rw[aM (aN q Y)];exact q) λc xs q=>by rw[aM (aN q Y)];exact q
theorem Fj(F:Co e T C od fl h):bh P w H h e (.ext (nZ C e od)):=by obtain⟨Z,vs,W,U,he,X,Y,hd,_⟩:=F;refine⟨⟨Z,vs,he,X,Y,hd⟩,⟨Z,he⟩,?_⟩;rintro h1 h2 ⟨Z,vs,he,r⟩ k;exact⟨Z,vs,k _ he,r⟩
structure LamOk(P:eb)(w:er)(K:dt)(mg:Str->Option aC)(base:fg)(k:Nat)(f:b_)(sp:Hp->VK->XK->Prop):Prop where
 fn:∃o fd,base.get? f=ar o/\o.data= .func fd
 run:∀(A:g_) (outer:List Env) (s:a_) (H:Hp) (Q:VK) (E:XK),Room k A->aI P w K mg base A outer s H->sp H Q E->K_ (eK P w) A (.call (.ref f) ⟨[],[]⟩) (CR (oG P w) outer P w H s Q E) s
section
variable {X:Cx}{k i jn jy:Nat}{f CW:b_}{sp:Hp->VK->XK->Prop}{x c n y:Str}{p cpos epos np p1 p2 p3 hpos tpos:Pos}
theorem AG(G:X.stack=X.env::X.outer)(c2:X.env.frame=ar X.env.locals)(L:LamOk X.prog X.w X.K X.mg X.base k f sp)(hr:Room k X.A)(hN:X.N.Nodup)(hi:X.N[i]? =ar x)(hv:Gv X.env.scope x)
  (R:X.N[jn]? =ar n) (b0:X.N[jy]? =ar y) (S:X.env.scope.names.lookup n=ar .local) (a3:X.env.scope.names.lookup y=ar .local) (hg:Gl X c) (hm:X.mg c=ar (.ref CW))
  (hd:(x==("__debug__":Str))=false:=by decide) (c1:(x==("__classdict__":Str))=false:=by decide) (nV:(c==("__debug__":Str))=false:=by decide) (b2:(n==("__debug__":Str))=false:=by decide) (a4:(n==("__classdict__":Str))=false:=by decide)
  (b1:l_ (.Call (.Name x p) [] [] cpos) none epos.line X.env=aw false:=by rfl) (d:l_ (.Name n p2) (ar (.Name y p1)) p3.line X.env=aw false:=by rfl):
  PS X (.Try [.Expr (.Call (.Name x p) [] [] cpos) epos] [.ExceptHandler (ar (.Name c np)) (ar n) [.Assign [.Name y p1] (.Name n p2) p3] hpos] [] [] tpos)
   (λD σ H=>σ[i]? =ar (ar (.ref f))/\sp H (λ_ Y=>D.nx σ Y) (λcls od Y=>∃C,cls= .ref C/\TU X.K (.ref C) (.ref CW)=ar c_/\∀e,Y e=none->D.nx (((σ.set jn (ar (.ref e))).set jy (ar (.ref e))).set jn none) (upd Y e (.ext (nZ C e od))))):=by
 intro pins s σ H D I ⟨hσ,hsp⟩;refine wpAny_Try_except (Rn (wpAny_Expr_any ?_ I.quiet b1));refine Po (OM (wK (X:=X.nox) hi hv hd c1 pins s σ H (λv Y=>v= .ref f/\Y=H) (I.wish _) ⟨_,hσ,rfl,rfl⟩) (λu s1 c6=>?_) λ_ _ z=>j1 z);obtain⟨v,Y,P,r1,ev,eH⟩:=c6;subst ev eH;obtain rfl:u=ee f:=r1;have P:=P.unwish;obtain⟨o,fd,ho,g⟩:=L.fn;refine callWith_meth0 g (P.bk f o ho) (Q3 (Pq (L.run X.A X.stack s1 Y _ _ hr P.env0 hsp) λr s' U=>?_));cases r with
 | ok fl=>
  cases fl with
  |ret u=>
   obtain⟨v,H2,t,_,q⟩:=P.after U;exact Pp (Pp ⟨σ,H2,t,q⟩)
  |next=>exact j1 U
  |brk=>exact j1 U
  |cont=>exact j1 U
 | error ev=>
  obtain⟨e,T,C',od,Z,rfl,os,bare,un,B,F,ne,nT,le,lT,C,eC,hx,hD⟩:=U;cases eC;have t:L2.Inv X pins σ Z s':=P.call' (ch:=[]) os un B bare (λb z=>absurd z (by simp));have c3:∀b∈jw X.stack,Z b=none:=t.stkFree;refine sv (base:=X.base) (outer:=X.outer) (by rw[t.ok.frames,G]) (by rw[<-G];exact t.stack) c2 F λh1 T1 F1 l1 J=>?_;rw[<-G]at J;have a5:Z T1=none:=B.fresh l1;refine hU (s:={s' with heap:=h1}) F1 λE F2 m=>?_;have l:s1.heap.get? T1=none:=Un.gone un (by simp) (OU l1);have a8:gh X.prog X.w Z h1:=gh.fly B J ne nT c3;have Q:gh X.prog X.w Z E:=gh.fly a8 m ne a5 (λb z=>absurd z (by simp));have b4:Un (jw X.stack) [] Y Z s1.heap h1:=Un.fly un J le lT;have O:∀{h a:fg} {e T:b_},Step [] e T h a->Step (jw X.stack) e T h a:=λst=>⟨λb o q n1 n2 _=>st.keep b o q n1 n2 (by simp),st.slot,st.size⟩;have a6:Un (jw X.stack) [] Y Z s1.heap E:=Un.fly b4 (O m) le l;have I3:L2.Inv X pins σ Z {s' with heap:=E}:=P.call' (s':={s' with heap:=E}) (ch:=[]) os a6 Q bare (λb z=>absurd z (by simp));refine wpAny_handleBy_cons (codeAny_handlers_test (lq (X:=Cx.hand X (.ref e)) (Inv.hand I3 _) hg hm ?_ nV)) (by intro q;cases q);have LT:W.Looks (eK X.prog X.w) E (T5 (.ref e)) (.ref C'):=by obtain⟨oe,vs,oT,ts,he,hc,_⟩:=F2;exact hc ▸ (W.Looks.ld he).andThen .now
  refine(W.exm_one (h:=E) I3.kIn LT hx).at ?_;refine codeAny_handlers_suite_as (hU (s:={s' with heap:=E}) F2 λh3 F3 a0=>?_);have a7:gh X.prog X.w Z h3:=gh.fly Q a0 ne a5 (λb z=>absurd z (by simp));have c5:Un (jw X.stack) [] Y Z s1.heap h3:=Un.fly a6 (O a0) le l;have I4:L2.Inv X pins σ (upd Z e (.ext (nZ C' e od))) {s' with heap:=h3}:=
   P.call' (s':={s' with heap:=h3}) (ch:=[]) os (Un.track c5 ne le) (gh.track a7 ne (Fj F3)) bare (λb z=>absurd z (by simp))
  refine jx (X:=X) I4 hN R (.inl S) (v:=.ref e) rfl (λs5 I5=>?_) (.inr S);have hl:jn<σ.length:=by rw[I.len];exact(Nx.mp R).1
  have ps:=yd (Bj (X:=Cx.hand X (.ref e)) (pos:=p3) (pos':=p1) hN b0 (.inl a3) (wK (X:=Cx.hand X (.ref e)) (pos:=p2) R (.inl S) b2 a4) d (.inr a3));refine OM (ps pins s5 _ _ {nx:=λj H6=>j=(σ.set jn (ar (.ref e))).set jy (ar (.ref e))/\H6=upd Z e (.ext (nZ C' e od)),rt:=λ_ _=>False} (Inv.hand I5 _) ⟨.ref e,by rw[N9 hl],rfl,rfl⟩) (λfl s6 U=>?_) λ_ _ z=>j1 z;cases fl with
  |next=>
   obtain⟨j,H6,I6,e1,e2⟩:=U;subst e1 e2;exact Fi (Inv.unhand I.ok I6) hN R S λs7 I7=>⟨_,_,I7,hD e ne⟩
  |ret u=>obtain⟨_,_,_,_,_,z⟩:=U;exact j1 z
  |brk=>obtain⟨_,_,_,z⟩:=U;exact j1 z
  |cont=>obtain⟨_,_,_,z⟩:=U;exact j1 z
end
structure BaseL(K:dt)(mg:Str->Option aC)(base:fg):Prop where
 bm:∃bm ob,mg "__builtins__"=ar (.ref bm)/\bm≠y_/\base.get? bm=ar ob/\ob.cls= .type "module"/\ob.dict=ar y_/\ob.data= .plain
 cd:∀x∈cg,∀c P,mu K x=ar (c,P)->R0 base c P
def uc(K:dt):Prop:=∀x∈cg,∀y∈cg,∀c d P,mu K x=ar (c,P)->mu K y=ar (d,P)->x=y
theorem xB(l:List aC)(h:Tp l)(e:RJ pos (l++[mv a,mv b,c])=ar v):RJ pos l=ar v\/v=c:=by
 fun_induction Tp l with
 |case1=>
  have Z:(if a==(pos.line:Int) && b==(pos.col:Int)then ar c else none)=ar v:=e;split at Z
  ·exact .inr (NW Z).symm
  ·cases Z
 |case2 a' t b' u x rest ih=>
  simp only[RM,RJ]at e⊢;split at e
  ·next hq=>rw[if_pos hq];exact .inl e
  ·next hq=>rw[if_neg hq];exact ih h e
 |case3 l h1 h2=>exact h.elim
section
variable {X:Cx}{pins:List (b_×Obj)}{σ:L2.St}{H:Hp}{s:a_}{x ql:Str}{c P:b_}{params:R7}{body:Expr}{scope:Scope}{pos:Pos}{clos:List (Str×b_)}{Q:aC->a_->Prop}{E:aC->a_->Prop}{A:g_}
theorem IG(hx:x∈cg)(ht:mu X.K x=ar (c,P))(J:X.env.code= .ref c)(hq:X.env.qual++"<lambda>"=ql)(i:ql=x++".<locals>.<lambda>")(B:BaseL X.K X.mg X.base)(TI:uc X.K)(a3:S9 scope X.env=aw clos)
  (m:defaultsOf params X.env=([],[])) (I:L2.Inv X pins σ H s) (T:TabsOk X.K H)
  (h:∀f Z Y pm H1 s1,L2.Inv X pins σ H1 s1->s.heap.objs.size<=f->s1.heap.get? f=ar (D_ "<lambda>" ql params body scope clos pm Z Y)->H1 f=none->H1 Z=ar (.ext (rq ql Z))->
   (∀a o,H a=ar o->(∀G,o≠ .tbl G)->H1 a=ar o)->(∀a,H a=none->H1 a≠none->s.heap.objs.size<=a)->TabsOk X.K H1->Q (.ref f) s1):
  d_ (eK X.prog X.w) A (g6 (.Lambda params body scope pos) X.env) Q E s:=by
 refine W.kla_eval m ?_;rw[hq];obtain⟨G,O,hT,hA⟩:=T x hx c P ht;have C:R0 s.heap c P:=(B.cd x hx c P ht).keeps I.bk;have oP:s.heap.get? P=ar (B' G):=I.hok P _ O;have hg:s.heap.Ns f_ X.mg:=I.mod.glob.keeps I.bk;have U:∀b,H b=none->b≠P:=λb n z=>by rw[z,O]at n;cases n
 have gP:f_≠P:=by obtain⟨o,es,ep,e,_⟩:=I.mod.glob;exact U _ (I.bs _ _ e).2
 have hb:s.heap.BuiltinsAt X.mg P:=by obtain⟨bm,ob,b1,b2,b3,b4,b5,b6⟩:=B.bm;refine⟨bm,ob,b1,b2,λz=>?_,U _ (I.bs _ _ b3).2,I.bk _ _ b3,b4,b5,b6⟩;obtain⟨o,es,ep,e,hd,_⟩:=I.mod.glob;rw[z,e]at b3;cases b3;rw[hd]at b6;cases b6
 cases hn:RJ pos G.toList with
 |some cv=>
  obtain⟨Z,rfl,j⟩:=hA pos cv hn;rw[<-i]at j;refine W.kla_makeFunctionHit a3 I.ok.glob hg J C oP hT hn hb λY h' tk hk l=>?_;have R:∀b o,s.heap.get? b=ar o->(h'.push {cls:=.type "function",data:=.func (TV "<lambda>" ql params body scope clos ((X.mg "__name__").getD .none) (.ref Z) Y)}).get? b=ar o:=λb o e=>Nq _ (hk b o e);exact h _ Z Y _ H _ (I.kept (t':=tk) R) l (NA _ rfl) (I.hok.fresh l) j (λa o e _=>e) (λa n z=>absurd n z) T
 | none=>
  refine W.kla_makeFunction a3 I.ok.glob hg J C oP hT hn gP hb λZ Y h' tk hX N v a5 c4=>?_;have nc:H Z=none:=I.hok.fresh N;have cP:P≠Z:=λz=>by rw[<-z,O]at nc;cases nc
  have R:∀b o,b≠P->s.heap.get? b=ar o->(h'.push (D_ "<lambda>" ql params body scope clos ((X.mg "__name__").getD .none) Z Y)).get? b=ar o:=λb o n e=>Nq _ (hX b o n e);have a4:(h'.push (D_ "<lambda>" ql params body scope clos ((X.mg "__name__").getD .none) Z Y)).get? P=ar (B' (G++ #[mv pos.line,mv pos.col,.ref Z])):=Nq _ c4;have old:∀a o,H a=ar o->a≠P->upd (upd H P (.tbl (G++ #[mv pos.line,mv pos.col,.ref Z]))) Z (.ext (rq ql Z)) a=ar o:=λa o e n=>by rw[aM (aN e nc),aM n];exact e
  have a0:∀b o,s.heap.get? b=ar o->b≠Z:=λb o e=>NL (NK (Ny e) N);have un:Un X.fs [] H (upd (upd H P (.tbl (G++ #[mv pos.line,mv pos.col,.ref Z]))) Z (.ext (rq ql Z))) s.heap (h'.push (D_ "<lambda>" ql params body scope clos ((X.mg "__name__").getD .none) Z Y)):=
   ⟨λb o e n _ _=>R b o (U b n) e,λb o e n _ _=>⟨o.slots,R b o (U b n) e⟩,λb o e n _=>by rw[aM (a0 b o e),aM (U b n)];exact n,λb o e _=>(by
    by_cases z:b=P
    ·subst z;exact⟨_,a4⟩
    ·exact⟨o,R b o z e⟩),λb xs e=>old b _ e (λz=>by rw[z,O]at e;cases e),λb o u e=>old b _ e (λz=>by rw[z,O]at e;cases e),λb qs e=>(by
    by_cases z:b=P
    ·subst z;rw[O]at e;cases e;exact⟨_,by rw[aM cP,bg]⟩
    ·exact⟨#[],by rw[old b _ e z];simp⟩)⟩
  have L:rq ql Z (h'.push (D_ "<lambda>" ql params body scope clos ((X.mg "__name__").getD .none) Z Y)):=by obtain⟨F,g,vs,t,e1,e2,r⟩:=a5;exact⟨F,g,vs,t,e1,Nq _ e2,r⟩
  have c3:gh X.prog X.w (upd (upd H P (.tbl (G++ #[mv pos.line,mv pos.col,.ref Z]))) Z (.ext (rq ql Z))) (h'.push (D_ "<lambda>" ql params body scope clos ((X.mg "__name__").getD .none) Z Y)):=by
   intro a o e;by_cases za:a=Z
   ·subst za;rw[bg]at e;cases e;refine⟨L,?_,?_⟩
    ·obtain⟨F,g,vs,t,e1,e2,_⟩:=L;cases e1;exact⟨g,e2⟩
    ·rintro h1 h2 ⟨F,g,vs,t,e1,e2,r⟩ k;cases e1;exact⟨a,g,vs,t,rfl,k _ e2,r⟩
   ·rw[aM za]at e;by_cases zP:a=P
    ·subst zP;rw[bg]at e;cases e;exact a4
    ·rw[aM zP]at e;refine(I.hok a o e).stay (λb u S q=>R b u ?_ q) (λb q=>old b _ q (λz=>by rw[z,O]at q;cases q)) λb xs q=>old b _ q (λz=>by rw[z,O]at q;cases q);rintro rfl;rcases S with S|S
     ·exact zP S.symm
     ·rw[O]at S;cases S
  refine h _ Z Y _ _ _ (I.un (t':=tk) un c3) (Nz N (O2 v)) (NA _ rfl) ?_ bg (λa o e n=>old a o e (λz=>by rw[z,O]at e;cases e;exact n _ rfl)) (λa n z=>?_) λy hy d P' e=>?_
  ·have:H h'.objs.size=none:=I.hok.fresh (Nz N (O2 v));rw[aM (j' (NL v)),aM (U _ this)];exact this
  ·by_cases za:a=Z
   ·rw[za];exact N
   ·rw[aM za,aM (U a n)]at z;exact absurd n z
  ·by_cases zP:P'=P
   ·subst zP;obtain rfl:y=x:=TI y hy x hx d c P' e ht;refine⟨_,by rw[aM cP,bg],?_,λp cv q=>?_⟩
    ·have:=TriplesOk_snoc pos.line pos.col (.ref Z) G.toList hT;simpa using this
    ·have q':RJ p (G.toList++[mv pos.line,mv pos.col,.ref Z])=ar cv:=by simpa using q
     rcases xB _ hT q' with q2|q2
     ·obtain⟨F,e1,e2⟩:=hA p cv q2;exact⟨F,e1,old _ _ e2 (λz=>by rw[z,O]at e2;cases e2)⟩
     ·exact⟨Z,q2,by rw[<-i];exact bg⟩
   ·obtain⟨qs,g1,g2,g3⟩:=T y hy d P' e;exact⟨qs,old _ _ g1 zP,g2,λp cv q=>let ⟨F,e1,e2⟩:=g3 p cv q;⟨F,e1,old _ _ e2 (λz=>by rw[z,O]at e2;cases e2)⟩⟩
end
def MD(K:dt)(ι:List b_)(H:Hp)(x:D)(cls:aC)(od:Option b_):Prop:=
 ∃n ds C,x= .exc n ds/\v_ K f_ n=ar (ar (.ref C))/\cls= .ref C/\
  ((od=none/\ds=[])\/∃dx fs,od=ar dx/\H dx=ar (.xd fs)/\fs.map (·.1)=([("many":Str),("most":Str)]:List Str)/\RelDs K ι H ds (fs.map (·.2)))
def Bb(K:dt)(Ek:XK):XD:=λx ι _ H=>∀cls od,MD K ι H x cls od->Ek cls od H
def Cp(K:dt)(F:List D->M D):Sp:=λvs H Q Ek=>∃ ι S ds,Rep K ι H S/\RelDs K ι H ds vs/\cont K (Bb K Ek) (F ds) ι S H (lg K Q)
theorem Cq{K:dt}{E X:XD}{U:Type}{c:M U}{ι:List b_}{S:aB}{H:Hp}{Q:U->List b_->aB->Hp->Prop}(h:cont K E c ι S H Q)(k:∀x ι' Z H',E x ι' Z H'->X x ι' Z H'):cont K X c ι S H Q:=by
 obtain⟨r,Z,e,q⟩:=h;refine⟨r,Z,e,λY T R rep1=>?_⟩;have:=q Y T R rep1;cases r with
 |ok a=>exact this
 |ex x=>exact k x _ _ _ this
def oa{α:Type}(c:M α):M α:=λS=>match c S with
 |some (.ok a,S')=>ar (.ok a,S')
 |_=>none
theorem sx{K:dt}{E:XD}{Z:Type}{c:M Z}{ι:List b_}{S:aB}{H:Hp}{Q:Z->List b_->aB->Hp->Prop}(h:cont K E (oa c) ι S H Q):cont K fH c ι S H Q:=by
 obtain⟨r,X,e,q⟩:=h;unfold oa at e;cases z:c S with
 |none=>rw[z]at e;cases e
 |some p=>
  obtain⟨Y,S1⟩:=p;rw[z]at e;cases Y with
  |ok a=>cases e;exact⟨_,_,z,q⟩
  |ex x=>cases e
section
variable {X:Cx}{E:XD}
theorem yK{m:TM}(h:SE X fH e m):SE X E e (λρ=>oa (m ρ)):=PE.imp h λ_ _ _ ⟨ι,S,ρ,rep,re,c⟩=>⟨ι,S,ρ,rep,re,sx c⟩
theorem vF{st:List sb}{m:du}(h:vh X fH st m):vh X E st (λρ=>oa (m ρ)):=rg.imp h λ_ _ _ ⟨ι,S,ρ,rep,re,c⟩=>⟨ι,S,ρ,rep,re,sx c⟩
theorem ud{st:List sb}{m:du}(h:vh X.nox fH st m):vh X fH st m:=rg.nox h
end
structure Leaves(X:Cx)(Ek:XK):Prop where
 st:X.stack=X.env::X.outer
 fm:X.env.frame=ar X.env.locals
 ex:X.ex=[]
 xe:∀e s',d_ (eK X.prog X.w) X.A (R6 X.env e) (λ_ s''=>oG X.prog X.w X.outer X.H₀ X.s₀ Ek e s'') (λe' s''=>oG X.prog X.w X.outer X.H₀ X.s₀ Ek e' s'') s'->X.xe e s'
 ow:R5 (eK X.prog X.w) X.A X.env X.xe
section
variable {X:Cx}{Ek:XK}
theorem Leaves.pass(L:Leaves X Ek):oU (oG X.prog X.w) X Ek:=by rintro pins σ H s x s' I ⟨e,T,C,od,H',rfl,os,bare,un,hok,F,ne,nT,le,lT,hE⟩;have U:L2.Inv X pins σ H' s':=I.call' (ch:=[]) os un hok bare (λb z=>absurd z (by simp));refine L.xe _ _ (xA (base:=X.base) (outer:=X.outer) (by rw[U.ok.frames,L.st]) (by rw[<-L.st];exact U.stack) L.fm F λh' Q P l st=>?_);rw[<-L.st]at st;have Z:gh X.prog X.w H' h':=gh.fly hok st ne nT U.stkFree;have S:Un (jw X.stack) [] H H' s.heap h':=Un.fly un st le lT;have W:L2.Inv X pins σ H' {s' with heap:=h'}:=I.call' (s':={s' with heap:=h'}) (ch:=[]) os S Z bare (λb z=>absurd z (by simp));have R:=W.base;have h0:=I.base;have Y:=U.base;rw[L.ex]at R h0 Y;exact⟨e,Q,C,od,H',rfl,W.os,W.bare,R,W.hok,P,ne,hok.fresh l,Un.gone h0 (by simp) le,Un.gone Y (by simp) (OU l),hE⟩
theorem Leaves.new{H:Hp}(L:Leaves X Ek)
  (I:L2.Inv X pins σ H s') (N:s'.heap.get? e=ar oe) (O:oe.cls= .ref C) (K:oe.dict=od) (J:oe.data= .fields vs) (F:vs[1]? =ar .none) (Q:H e=none) (hs:X.s₀.heap.get? e=none) (B:Ek (.ref C) od H):X.xe (.ref e) s':=by
 refine L.xe _ _ (vD (base:=X.base) (outer:=X.outer) (by rw[I.ok.frames,L.st]) (by rw[<-L.st];exact I.stack) L.fm N O K J F λh' G E l st=>?_);have S:∀b∈jw (X.env::X.outer),H b=none:=by rw[<-L.st];exact I.stkFree
 have Y:gh X.prog X.w H h':=gh.fly I.hok st Q Q S;have Z:=I.base;rw[L.ex]at Z;have T:∀b o,X.s₀.heap.get? b=ar o->b∉jw X.outer->b∉jw (X.env::X.outer):=λb o q n z=>by
  rw[vE X.outer X.env.locals _ L.fm]at z;rcases NB.mp z with z|z
  ·exact absurd (Ny q) (by rw[z];exact RB.mpr I.ok.above)
  ·exact n z
 have ne:∀b o,X.s₀.heap.get? b=ar o->b≠e:=λb o q=>hV q hs;refine⟨e,G,C,od,H,rfl,I.os,I.bare,⟨λb o q n hf W=>?_,λb o q n hf W=>?_,Z.free,λb o q W=>?_,Z.tups,Z.frzs,Z.tbls⟩,Y,E,Q,I.hok.fresh l,hs,Un.gone Z (by simp) (OU l),B⟩
 ·exact st.keep b o (Z.keep b o q n hf W) (ne b o q) (ne b o q) (T b o q hf)
 ·obtain⟨A,P⟩:=Z.slot b o q n hf W;obtain⟨U,R⟩:=st.slot b _ P (ne b o q) (ne b o q);exact⟨U,R⟩
 ·obtain⟨o1,P⟩:=Z.there b o q W;obtain⟨U,R⟩:=st.slot b _ P (ne b o q) (ne b o q);exact⟨_,R⟩
theorem dy{P:eb}{w:er}{K:dt}{Z:Str->Option aC}{base:fg}{N:List Str}{qual:Str}{scope:Scope}{f:b_}{Y:aC}{A:g_}{outer:List Env}{s₀:a_}{H₀:Hp}:
  Leaves (oV (oG P w) P w K Z base N qual scope f Y A outer s₀ H₀ Ek) Ek:=⟨rfl,rfl,rfl,λ_ _ h=>h,PassesOwn.leaving⟩
end
structure DefX(P:eb)(w:er)(K:dt)(mg:Str->Option aC)(base:fg)(k:Nat)(x:Str)(ps:List Str)(F:List D->M D):Prop where
 ex:∃f fd,FnOk P w K mg base (oG P w) k f fd ps (Cp K F)/\mg x=ar (.ref f)/\A_ K (.ref f)=c_/\Binds K fd ps []
section
variable {P:eb}{w:er}{K:dt}{mg:Str->Option aC}{base:fg}
theorem IH{x qual:Str}{st:sb}{f:b_}{I:f'}{N X:List Str}{k:Nat}{m:du}(F:Fun K x qual st f I)(B:FnScope N X (aA st))
  (T:∀(Z:aC) (A:g_) (outer:List Env) (s:a_) (H:Hp) (Y:XK),Room k (A.deeper (G2 qual (aA st) s.heap.objs.size f Z))->RX K Z qual=c_->(∃J od U kV doc pm an ct,K.lookup f=ar ⟨J,od,.func (C_ x qual (fL st) (dC st) (aA st) .none kV doc pm an Z ct),U⟩)->
   vh (oV (oG P w) P w K mg base N qual (aA st) f Z A outer s H Y) (Bb K Y) (dC st) m):FnOk P w K mg base (oG P w) (k+1) f I X (Cp K (rZ N.length X.length m)):=by
 have key:∀{vs:List V} {H:Hp} {Q:VK} {Y:XK},Cp K (rZ N.length X.length m) vs H Q Y->vs.length=X.length/\∃ ι S ds,Rep K ι H S/\RelDs K ι H ds vs/\cont K (Bb K Y) (do let o<-m (ds.map ar++k_ (N.length - X.length) none);outD o) ι S H (lg K Q):=by
  rintro vs H Q Y ⟨ι,S,ds,rep,r,c⟩;unfold rZ at c;by_cases O:ds.length=X.length
  ·rw[if_pos O]at c;exact⟨by rw[<-r.length];exact O,ι,S,ds,rep,r,c⟩
  ·rw[if_neg O]at c;exact(ag c).elim
 obtain⟨J,od,kV,doc,pm,an,Z,ct,U,rfl,G,R⟩:=F.ex;refine Gx G R B (λvs H Q Y h=>(key h).1) λA outer s H vs Q Y C h=>⟨_,T Z A outer s H Y C R ⟨J,od,U,kV,doc,pm,an,ct,G⟩,?_⟩;obtain⟨O,ι,S,ds,rep,r,c⟩:=key h;refine⟨ι,S,_,rep,?_,ak (ai c) λo z S1 y e1 rep1 L=>?_⟩
 ·have:=RelE.start r (N.length - X.length);unfold L2.start;rw[O];exact this
 ·cases o with
  |nx ρ=>exact λE _=>ah L .refl rep1 _ .non
  |ret d=>exact ah L .refl rep1
  |bk ρ=>exact(ag L).elim
  |ct ρ=>exact(ag L).elim
end
section
variable {X:Cx}{Ek:XK}{e:Expr}{es:List Expr}{pos:Pos}{ms:aI->M (List D)}
theorem gH(d:DefX X.prog X.w X.K X.mg X.base k x ps F)(I:Room k X.A)(O:oU (oG X.prog X.w) X Ek)(N:SA X (Bb X.K Ek) (e::es) ms)(T:Gl X x:=by rfl)
  (Z:(x==("__debug__":Str))=false:=by decide) (L:dV (e::es) X.env=(dr,g6 e X.env)::dV es X.env:=by rfl) (Y:(u' pos (dV es X.env)).any (·.1)=false:=by rfl):
  SE X (Bb X.K Ek) (.Call (.Name x p) (e::es) [] pos) (az F ms):=by
 obtain⟨f,fd,G,hm,J,U⟩:=d.ex;refine PE.imp (yf G I T hm J U (.nil) (E:=Ek) O N Z L Y) λσ H Q h=>?_;obtain⟨ι,S,ρ,rep,re,c⟩:=h;refine⟨ι,S,ρ,rep,re,ak (ai c) λds W S1 R e1 rep1 C vs P=>?_⟩;show Cp X.K F (vs++[]) R Q Ek;rw[Om];exact⟨W,S1,ds,rep1,P,C⟩
theorem aJ(d:DefX X.prog X.w X.K X.mg X.base k x ps F)(J:Room k X.A)(O:SA X fH (e::es) ms)(T:Gl X x:=by rfl)
  (Z:(x==("__debug__":Str))=false:=by decide) (N:dV (e::es) X.env=(dr,g6 e X.env)::dV es X.env:=by rfl) (Y:(u' pos (dV es X.env)).any (·.1)=false:=by rfl):
  SE X fH (.Call (.Name x p) (e::es) [] pos) (az F ms):=by
 obtain⟨f,fd,G,hm,L,U⟩:=d.ex;refine PE.imp (yf G J T hm L U (.nil) (E:=E0) AF O Z N Y) λσ H Q h=>?_;obtain⟨ι,S,ρ,rep,re,c⟩:=h;refine⟨ι,S,ρ,rep,re,ak (ai c) λds W S1 R e1 rep1 I vs P=>?_⟩;show Cp X.K F (vs++[]) R Q E0;rw[Om];exact⟨W,S1,ds,rep1,P,Cq I λ_ _ _ _ z=>z.elim⟩
end
def aY:List Str:=["WebError","NoWeb","NoPlace","NoPlaces","NoMap","NoSharing","NoRoot","NoNumber","NotJoined","NoTie","NoText","NoLine","NoDeed","TooGreat"]
def cD(n y:Str):Bool:=n==y||y=="WebError"
abbrev KP:List Value:=[.type "ValueError",.type "Exception",.type "BaseException",.type "object"]
def Cr(K:dt)(n:Str):Bool:=match v_ K f_ n with
 | some (ar (.ref C))=>Cm K C && (n=="TooGreat"||Tz K C KP "ValueError.__new__") && (rn K (.ref C) (.type "ValueError")==ar c_) && (rn K (.type "NoneType") (.ref C)==ar dr) &&
  aY.all (λy=>match v_ K f_ y with
   |some (ar (.ref D))=>rn K (.ref C) (.ref D)==ar (cD n y) && TU K (.ref C) (.ref D)==ar (cD n y)
   |_=>dr)
 |_=>dr
def hZ(K:dt):Bool:=aY.all (Cr K) && rn K (.type "NoneType") (.type "ValueError")==ar dr
structure ErrAt(K:dt)(n:Str)(C:b_):Prop where
 ns:v_ K f_ n=ar (ar (.ref C))
 ck:ExcC K C
 pl:n="TooGreat"\/Tz K C KP "ValueError.__new__"=c_
 ve:rn K (.ref C) (.type "ValueError")=ar c_
 nn:rn K (.type "NoneType") (.ref C)=ar dr
 sub:∀y∈aY,∃D,v_ K f_ y=ar (ar (.ref D))/\rn K (.ref C) (.ref D)=ar (cD n y)/\TU K (.ref C) (.ref D)=ar (cD n y)
theorem mY{K:dt}(h:hZ K=c_){n:Str}(Y:n∈aY):∃C,ErrAt K n C:=by
 unfold hZ at h;rw[OA]at h;have Z:=NT.mp h.1 n Y;unfold Cr at Z;split at Z
 ·next C e=>
  simp only[hO,G_,beq_iff_eq,rb]at Z;obtain⟨⟨⟨⟨a1,a2⟩,S⟩,U⟩,X⟩:=Z;refine⟨C,e,.of a1,a2,S,U,λy T=>?_⟩;have:=X y T;split at this
  ·next D eD=>
   simp only[hO,beq_iff_eq]at this;exact⟨D,eD,this.1,this.2⟩
  ·cases this
 ·cases Z
theorem II{K:dt}(h:hZ K=c_):rn K (.type "NoneType") (.type "ValueError")=ar false:=by unfold hZ at h;rw[OA,beq_iff_eq]at h;exact h.2
theorem Fk{K:dt}(X:K.In h)(q:Tz K C KP "ValueError.__new__"=c_):∃bm N nm qn bs hdct sn sub ab col dd k0 k1 k2 k3 k5 mN,
  h.get? C=ar (excClassObj nm qn C N bs bm hdct sn sub ab col dd k0 k1 k2 k3 k5 "ValueError.__new__")/\h.Ns N mN/\mN "__init__"=none/\OwnTail h KP bm:=by
 unfold Tz at q;split at q
 case h_2=>cases q
 case h_1 dd cd T ho=>
 split at q
 case h_2=>cases q
 case h_1 C' bm k0 k1 k2 k3 n k5 hm hs=>
 simp only[hO,beq_iff_eq,Rg]at q;obtain⟨⟨⟨⟨⟨R,en⟩,Z⟩,S⟩,Y⟩,U⟩:=q;subst R en;rcases cd with⟨nm,bs,mro,ns,qn,hd,sn,sub,ab,col,del⟩;dsimp only at hm Z Y U;subst hm Z;obtain rfl:T= #[k0,k1,k2,k3,ar (.builtin "ValueError.__new__"),k5]:=by rcases T with⟨l⟩;simp only at hs;rw[hs]
 exact⟨bm,ns,nm,qn,bs,hd,sn,sub,ab,col,dd,k0,k1,k2,k3,k5,_,X _ _ ho,.of_isNs (W.isNs_of_in X Y),W.nsMap_none_of_in X Y U,W.tail_of_in X S⟩
section
variable {X:Cx}{Ek:XK}{E:XD}
theorem p7(L:Leaves X Ek)(u:X.calm=c_)(r:hZ X.K=c_)(f:x∈aY)(B:x≠"TooGreat")(n:SA X (Bb X.K Ek) (e::es) ms)(g:Gl X x:=by rfl)
  (G:(x==("__debug__":Str))=false:=by decide) (y:dV (e::es) X.env=(dr,g6 e X.env)::dV es X.env:=by rfl) (P:(u' cpos (dV es X.env)).any (·.1)=false:=by rfl):
  SS X (Bb X.K Ek) (.Raise (ar (.Call (.Name x np) (e::es) [] cpos)) none pos) (λρ=>do let ds<-ms ρ;if ds.length<=lim then M.raise (.exc x [])else M.fail):=by
 intro pins s σ H T I h;obtain⟨ι,S,ρ,rep,re,c⟩:=h;obtain⟨C,A⟩:=mY r f;have d:=A.pl.resolve_left B;have hm:X.mg x=ar (.ref C):=Pg I.mod.kin I.mod.glob A.ns;obtain⟨bm,N,nm,k,bs,hdct,sn,sub,ab,col,dd,k0,k1,k2,k3,k5,mN,l,j,O,tl⟩:=Fk I.mod.kin d;refine wpAny_Raise_call_subU (k5:=k5) (k3:=k3) (k2:=k2) (k1:=k1) (k0:=k0) (nm:=nm) (q:=k) (C:=C) (N:=N) (bm:=bm) (bs:=bs) (hdct:=hdct) (sn:=sn) (sub:=sub) (ab:=ab) (col:=col) (dd:=dd) QM (by decide) QM (mN:=mN) (tl.hasType PySem.F.excBase_ValueError.hasBase) (I.ok.hd u) (by rw[y];show(dr||(u' cpos (dV es X.env)).any (·.1))=dr;rw[P];rfl) O (lq I g hm ⟨rfl,?_⟩ G);have Y:=n cpos pins s σ H _ I ⟨ι,S,ρ,rep,re,ak (ai c) λds Z S1 W e1 rep1 R vs Q=>(⟨Z,S1,ds,rep1,Q,R⟩:∃Z S1 ds,Rep X.K Z W S1/\RelDs X.K Z W ds vs/\cont X.K (Bb X.K Ek) (if ds.length<=lim then M.raise (.exc x [])else M.fail) Z S1 W _)⟩;rw[y]at Y⊢;refine Calls.evalArgs_plain (OM Y (λus s2 J=>?_) λ_ _ z=>z);obtain⟨vs,W,U,p,Z,S1,ds,rep1,Q,R⟩:=J;by_cases hl:ds.length<=lim
 ·rw[if_pos hl]at R;refine⟨rfl,?_,U.bk _ _ l,j.keeps U.bk,tl.keeps U.bk,λh' ea hm=>?_⟩
  ·show us.length<=sizeLine;rw[<-p.length, <-Q.length];exact Nz hl fF
  ·obtain⟨t,o,h2,h3⟩:=hm.there;have v:L2.Inv X pins σ W {s2 with heap:=h'}:=U.kept (t':=s2.toks) hm.keeps;have w:=U.base;rw[L.ex]at w;obtain⟨a,b,m,i⟩:=R;cases m;refine L.new v o rfl rfl rfl rfl (gh.gone U.hok hm.new) (Un.gone w (by simp) hm.new) (i Z W .refl rep1 _ _ ⟨x,[],C,rfl,A.ns,rfl,.inl ⟨rfl,rfl⟩⟩)
 ·rw[if_neg hl]at R;exact(ag R).elim
def vG(f:Str->Bool):D->M D
 | .exc n _=>if n∈aY then aw (.bl (f n))else M.fail
 | .non=>aw (.bl dr)
 |_=>M.fail
theorem AH(x:nZ C a od h)(R:od=none\/∃dx fs,od=ar dx/\bh P w H h dx (.xd fs)):∃ox odo,F0 h a ox C odo:=by
 obtain⟨Y,vs,e,T,U,hf⟩:=x;have Z:TX Y=true:=by unfold TX;rw[hf]
 rcases R with rfl|⟨dx,fs,rfl,h2⟩
 ·exact⟨Y,none,e,T,Z,by rw[U];trivial⟩
 ·obtain⟨S,e2⟩:=bh.there h2;exact⟨Y,ar S,e,T,Z,by rw[U];exact e2⟩
theorem Fl{Q:aC->a_->Prop}(I:L2.Inv X pins σ H s)(r:RelD X.K ι H (.exc n ds) v)(U:RelV v u)
  (Y:hZ X.K=c_) (T:n∈aY) (S:∀C,ErrAt X.K n C->rn X.K (.ref C) cv=ar b) (h:∀tk,Q (.bool b) {s with toks:=tk}):d_ (eK X.prog X.w) A (call (.builtin "isinstance") [u,cv]) Q Ex s:=by
 obtain⟨C,Z⟩:=mY Y T;have fin:∀{a C2:b_} {od:Option b_},v_ X.K f_ n=ar (ar (.ref C2))->v= .ref a->nZ C2 a od s.heap->(od=none\/∃dx fs,od=ar dx/\bh X.prog X.w H s.heap dx (.xd fs))->d_ (eK X.prog X.w) A (call (.builtin "isinstance") [u,cv]) Q Ex s:=by rintro a C2 od e1 rfl ph hd;rw[Z.ns]at e1;cases e1;obtain rfl:u=ee a:=U;exact Os (Cn Z.ck) I.kIn (AH ph hd) (S C Z) (λz=>nomatch z) h
 cases r with
 |exc e1 e2=>exact fin e1 rfl (I.hok _ _ e2).1 (.inl rfl)
 |excF e1 e2 e3 e4 e5=>exact fin e1 rfl (I.hok _ _ e2).1 (.inr ⟨_,_,rfl,I.hok _ _ e3⟩)
theorem Cs{Q:aC->a_->Prop}(I:L2.Inv X pins σ H s)(Z:rn X.K (.type "NoneType") cv=ar dr)(h:∀tk,Q (.bool dr) {s with toks:=tk}):
  d_ (eK X.prog X.w) A (call (.builtin "isinstance") [.none,cv]) Q Ex s:=Os Q2 I.kIn p4 Z (λz=>nomatch z) h
theorem yL{q:Pos}{f:Str->Bool}(F:hZ X.K=c_)(G:X.mg "isinstance"=none)(B:SE X E e m)(O:PE X ec (tC vc))(T:∀u,RelV vc u->u=cv)(w:rn X.K (.type "NoneType") cv=ar dr)
  (A:∀n∈aY,∀C,ErrAt X.K n C->rn X.K (.ref C) cv=ar (f n)) (z:Gl X "isinstance":=by rfl)
  (hs:dV [e,ec] X.env=[(dr,g6 e X.env),(dr,g6 ec X.env)]:=by rfl) (Z:dV [ec] X.env=[(dr,g6 ec X.env)]:=by rfl):
  SE X E (.Call (.Name "isinstance" p) [e,ec] [] pos) (λρ=>do let x<-m ρ;vG f x):=by
 have Y:cY X (.builtin "isinstance") (λxs H Q=>∃x ι d,xs=[x,vc]/\RelD X.K ι H d x/\((d= .non/\Q (.bl dr) H)\/∃n ds,d= .exc n ds/\n∈aY/\Q (.bl (f n)) H)):=by
  intro pins s σ H xs us Q I r h;obtain⟨x,ι,d,rfl,J,y⟩:=h;obtain⟨u,l,rfl,L,P⟩:=vals2 r;cases T _ P;rcases y with⟨rfl,q⟩|⟨n,ds,rfl,hn',q⟩
  ·cases J.non_inv;cases (show u=hY from L);exact Cs I w λR=>⟨.bl _,H,I.tok R,rfl,q⟩
  ·exact Fl I J L F hn' (λC t=>A n hn' C t) λR=>⟨.bl _,H,I.tok R,rfl,q⟩
 refine PE.imp (jA Y z G (by decide+kernel) (fe B (fe O kF Z) (by rw[hs,Z])) (by decide) (by decide) (by rw[hs,Z]) (by rw[Z];rfl)) λσ H Q h=>?_;obtain⟨ι,S,ρ,rep,re,c⟩:=h;refine⟨ι,S,ρ,rep,re,ak (ai c) λx N S1 o e1 rep1 U v r=>?_⟩;refine⟨v,N,x,rfl,r,?_⟩;cases x with
 |non=>exact .inl ⟨rfl,ah U .refl rep1 _ (.bl _)⟩
 | exc n ds=>
  dsimp only[vG]at U;by_cases hn':n∈aY
  ·rw[if_pos hn']at U;exact .inr ⟨n,ds,rfl,hn',ah U .refl rep1 _ (.bl _)⟩
  ·rw[if_neg hn']at U;exact(ag U).elim
 |_=>exact(ag U).elim
theorem ef{m:TM}{e:Expr}{y:Str}{p q pos:Pos}(S:hZ X.K=c_)(T:y∈aY)(G:Mod X.K X.mg X.base)(Q:X.mg "isinstance"=none)(P:SE X E e m)(R:Gl X "isinstance":=by rfl)(W:Gl X y:=by rfl)(O:(y==("__debug__":Str))=false:=by decide)
  (hs:dV [e,.Name y q] X.env=[(dr,g6 e X.env),(dr,g6 (.Name y q) X.env)]:=by rfl) (Y:dV [.Name y q] X.env=[(dr,g6 (.Name y q) X.env)]:=by rfl):
  SE X E (.Call (.Name "isinstance" p) [e,.Name y q] [] pos) (λρ=>do let x<-m ρ;vG (λn=>cD n y) x):=by
 obtain⟨C,Z⟩:=mY S T;refine yL (q:=q) (vc:=.ref C) (cv:=.ref C) S Q P (sW W (Pg G.kin G.glob Z.ns) rfl O) (λu z=>z) Z.nn (λn L N U=>?_) R hs Y;obtain⟨J,e1,e2,_⟩:=U.sub y T;rw[Z.ns]at e1;cases e1;exact e2
theorem Fm(T:hZ X.K=c_)(Q:X.mg "isinstance"=none)(W:X.mg "ValueError"=none)(R:SE X E e m)(S:Gl X "isinstance":=by rfl)(Y:Gl X "ValueError":=by rfl)
  (hs:dV [e,.Name "ValueError" q] X.env=[(dr,g6 e X.env),(dr,g6 (.Name "ValueError" q) X.env)]:=by rfl) (Z:dV [.Name "ValueError" q] X.env=[(dr,g6 (.Name "ValueError" q) X.env)]:=by rfl):
  SE X E (.Call (.Name "isinstance" p) [e,.Name "ValueError" q] [] pos) (λρ=>do let x<-m ρ;vG (λ_=>c_) x):=
 yL (q:=q) (vc:=.ty "ValueError") (cv:=.type "ValueError") T Q R (ot Y W (by decide+kernel) rfl) (λu z=>z) (II T) (λn P O U=>U.ve) S hs Z
end
abbrev jK(ql:Str)(scope:Scope)(f c':b_)(cl:List (Str×b_))(s:a_):Env:=W.envX ql scope s.heap.objs.size f (.ref c') cl
def vH(P:eb)(w:er)(K:dt)(mg:Str->Option aC)(base:fg)(N:List Str)(ql:Str)(scope:Scope)(f c':b_)(cl:List (Str×b_))(A:g_)(outer:List Env)(s:a_)(H:Hp)(Ek:XK):Cx where
 prog:=P
 w:=w
 K:=K
 mg:=mg
 base:=base
 A:=A.deeper (jK ql scope f c' cl s)
 N:=N
 s₀:=s
 H₀:=H
 env:=jK ql scope f c' cl s
 outer:=outer
 stack:=jK ql scope f c' cl s::outer
 ex:=[]
 calm:=c_
 fn:=λ_=>dr
 pn:=[]
 xe:=λe s'=>d_ (eK P w) (A.deeper (jK ql scope f c' cl s)) (R6 (jK ql scope f c' cl s) e) (λ_ s''=>oG P w outer H s Ek e s'') (λe' s''=>oG P w outer H s Ek e' s'') s'
section
variable {P:eb}{w:er}{K:dt}{mg:Str->Option aC}{base:fg}{N:List Str}{ql:Str}{scope:Scope}{f c':b_}{cl:List (Str×b_)}{params:R7}{body:Expr}{pm ctv:aC}
theorem p8:Leaves (vH P w K mg base N ql scope f c' cl A outer s H Ek) Ek:=⟨rfl,rfl,rfl,λ_ _ h=>h,PassesOwn.leaving⟩
structure Caps(base:fg)(scope:Scope)(cl:List (Str×b_))(N:List Str)(vs:List V):Prop where
 kind:scope.kind= .function
 nocell:∀y∈scope.names,y.2≠ .cell
 co:scope.isCoroutine=dr
 gen:scope.isGenerator=dr
 inj:∀x y c,cl.lookup x=ar c->cl.lookup y=ar c->x=y
 has:∀x,scope.names.lookup x=ar .free->∃c,cl.lookup x=ar c
 cell:∀x c,cl.lookup x=ar c->∃v,base.IsCell c v
 len:vs.length=N.length
 val:∀(i:Nat) (x:Str) (v:V),N[i]? =ar x->vs[i]? =ar v->scope.names.lookup x=ar .free/\∃c u,cl.lookup x=ar c/\RelV v u/\base.IsCell c (ar u)
def KQ(K:dt)(c':b_)(ql:Str)(ds:List D)(vs:List V)(m:TM):Hp->VK->XK->Prop:=λH Q Ek=>
 ∃ ι S,Rep K ι H S/\H c'=ar (.ext (rq ql c'))/\RelDs K ι H ds vs/\cont K (Bb K Ek) (m (ds.map ar)) ι S H (lg K Q)
theorem gn{h h':fg}(x:h.IsCell c v)(k:∀b o,h.get? b=ar o->h'.get? b=ar o):h'.IsCell c v:=let ⟨o,e,r⟩:=x;⟨o,k _ _ e,r⟩
theorem vI:∀{ds:List D} {vs:List V},RelDs K ι H ds vs->RelE K ι H (ds.map ar) (vs.map ar)
 |_,_,.nil=>.nil
 |_,_,.cons r t=>.cons (λd z=>by cases z;exact⟨_,rfl,r⟩) (vI t)
theorem IJ(d:base.get? f=ar (D_ "<lambda>" ql params body scope cl pm c' ctv))(cp:Caps base scope cl N vs)
  (X:SY (TV "<lambda>" ql params body scope cl pm (.ref c') ctv) ⟨[],[]⟩=aw [])
  (Y:∀(A:g_) (outer:List Env) (s:a_) (H:Hp) (O:XK),Room k (A.deeper (jK ql scope f c' cl s))->SE (vH P w K mg base N ql scope f c' cl A outer s H O) (Bb K O) body m):
  LamOk P w K mg base (k+1) f (KQ K c' ql ds vs m):=by
 refine⟨⟨_,_,d,rfl⟩,λA outer s H Q O t Z l=>?_⟩;obtain⟨ι,S,rep,n,rd,c⟩:=l;have bk:∀b o,base.get? b=ar o->s.heap.get? b=ar o:=λb o e=>(Z.bs b o e).1;have C:s.heap.CodeRec (.ref c') ql:=(Z.hok _ _ n).1;refine W.kla_callFunE t.depth (bk _ _ d) rfl cp.co cp.gen rfl C ?_;rw[X];refine Nv (wpAny_newFunctionEnv cp.nocell (λy hy=>absurd hy (by simp)) (λh1 h g=>?_) cp.kind);have T:∀b o,s.heap.get? b=ar o->h1.get? b=ar o:=λb o e=>(g.2 b (NL (Ny e))).trans (Nq _ e);refine⟨(Z.mod.nolimit.keeps bk).keeps T,?_⟩;show K_ _ _ (.expr body (jK ql scope f c' cl s)) _ _;refine W.kla_codeExpr ?_;have U:∀b:b_,b∉([]:List b_):=λb z=>by cases z
 have F:∀x,scope.names.lookup x≠ar .cell:=λx e=>cp.nocell _ (bz e) rfl;have I:L2.Inv (vH P w K mg base N ql scope f c' cl A outer s H O) [] (vs.map ar) H {s with heap:=h1,toks:=s.toks+0}:=
  ⟨⟨Z.mod,cp.kind,rfl,rfl,Nu _,cp.inj,(λx R=>by
    rcases R with R|R
    ·exact absurd R (F x)
    ·exact cp.has x R),(λ_ _ z=>Bool.noConfusion z),λ_=>t.hd,Around.frames_deeper Z.frames,.inr ⟨rfl,rfl⟩,λb z=>absurd z (U b),Z.bs,Z.bsz,λb _ _=>U b,λb z=>absurd z (U b),Z.funs,Z.frf⟩,
   rfl,Z.bare,Un.kept T,⟨_,h,λi x v B G h3=>(by
    have E:vs[i]? =ar v:=by
     rw[NP]at G;cases q:vs[i]? with
     |none=>rw[q]at G;cases G
     |some a=>rw[q]at G;cases G;rfl
    obtain⟨hf,L,u,e1,e2,e3⟩:=cp.val i x v B E;exact⟨u,e2,.inr ⟨.inr hf,L,e1,gn (gn e3 bk) T⟩⟩)⟩,
   (λx L e=>let ⟨v,z⟩:=cp.cell x L e;⟨v,gn (gn z bk) T⟩),Z.hok.fresh (Nu _),(λx L e=>let ⟨v,o,z,_⟩:=cp.cell x L e;(Z.bs _ _ z).2),
   (λp hp=>absurd hp (by simp[vH])),Z.hok.kept T,by rw[Nt];exact cp.len⟩
 refine OM (Y A outer s H O (t.deeper _) [] _ (vs.map ar) H Q I ⟨ι,S,ds.map ar,rep,vI rd,c⟩) (λu s' j=>?_) λe s' j=>j;obtain⟨v,H',J,r,q⟩:=j;exact⟨v,H',J.os,J.bare,J.base,J.hok,r,q⟩
end
theorem RelE.unset{K:dt}{ι:List b_}{H:Hp}:∀{ρ:S3.aI} {σ:L2.St} (i:Nat),RelE K ι H ρ σ->RelE K ι H (ρ.set i none) (σ.set i none)
 |_,_,_,.nil=>.nil
 |_,_,0,.cons _ t=>.cons (λd' z=>by cases z) t
 |_,_,i+1,.cons q t=>.cons q (RelE.unset i t)
def Ct(jn jy:Nat)(c:M D)(ρ:S3.aI):M Out:=λS=>match c S with
 |some (.ok _,S')=>ar (.ok (.nx ρ),S')
 |some (.ex (.exc n ds),S')=>if n∈aY then ar (.ok (.nx (((ρ.set jn (ar (.exc n ds))).set jy (ar (.exc n ds))).set jn none)),S')else none
 |_=>none
open Classical in
def vJ(i jn jy:Nat)(f:D)(c:M D):du:=λρ=>if ρ[i]? =ar (ar f)then Ct jn jy c ρ else M.fail
section
variable {X:Cx}{E:XD}{k i jn jy:Nat}{a c':b_}{ql:Str}{ds:List D}{vs:List V}{m:TM}{x n y:Str}{p cpos epos np p1 p2 p3 hpos tpos:Pos}
theorem IK(j:X.stack=X.env::X.outer)(B:X.env.frame=ar X.env.locals)(L:LamOk X.prog X.w X.K X.mg X.base k a (KQ X.K c' ql ds vs m))(hr:Room k X.A)(hN:X.N.Nodup)(c:hZ X.K=c_)(G:Mod X.K X.mg X.base)(hi:X.N[i]? =ar x)(hv:Gv X.env.scope x)
  (u:X.N[jn]? =ar n) (J:X.N[jy]? =ar y) (o:X.env.scope.names.lookup n=ar .local) (I:X.env.scope.names.lookup y=ar .local) (hg:Gl X "WebError")
  (hd:(x==("__debug__":Str))=false:=by decide) (F:(x==("__classdict__":Str))=false:=by decide) (s:(n==("__debug__":Str))=false:=by decide) (Q:(n==("__classdict__":Str))=false:=by decide)
  (t:l_ (.Call (.Name x p) [] [] cpos) none epos.line X.env=aw false:=by rfl) (O:l_ (.Name n p2) (ar (.Name y p1)) p3.line X.env=aw false:=by rfl):
  SS X E (.Try [.Expr (.Call (.Name x p) [] [] cpos) epos] [.ExceptHandler (ar (.Name "WebError" np)) (ar n) [.Assign [.Name y p1] (.Name n p2) p3] hpos] [] [] tpos) (vJ i jn jy (.fn a c' ql ds vs) (m (ds.map ar))):=by
 obtain⟨CW,f⟩:=mY c (show("WebError":Str)∈aY from .head _);refine PS.imp (AG j B L hr hN hi hv u J o I hg (Pg G.kin G.glob f.ns) hd F (by decide) s Q t O) λT σ H h=>?_;obtain⟨ι,S,ρ,rep,re,r,S',e,q⟩:=h;have e:vJ i jn jy (.fn a c' ql ds vs) (m (ds.map ar)) ρ S=ar (r,S'):=e;unfold vJ at e;by_cases hρ:ρ[i]? =ar (ar (.fn a c' ql ds vs))
 case neg=>rw[if_neg hρ]at e;cases e
 rw[if_pos hρ]at e;unfold Ct at e;obtain⟨v,e1,rv⟩:=re.get hρ;cases rv with
 | fn hc' rds=>
  refine⟨e1,ι,S,rep,hc',rds,?_⟩;cases z:m (ds.map ar) S with
  |none=>rw[z]at e;cases e
  | some pr=>
   obtain⟨r1,S1⟩:=pr;rw[z]at e;cases r1 with
   |ok d=>
    cases e;exact⟨_,_,z,λZ U R rep1 v' _=>q Z U R rep1 σ (re.later rep R)⟩
   | ex xd=>
    cases xd with
    | exc nm es=>
     dsimp only at e;split at e
     case isFalse=>cases e
     case isTrue hnm=>
     cases e;refine⟨_,_,z,λZ U R rep1 cls od rx=>?_⟩;obtain⟨n2,b0,C,e2,W,rfl,l⟩:=rx;cases e2;obtain⟨C2,b⟩:=mY c hnm;have:=b.ns;rw[W]at this;cases this;obtain⟨D2,f1,f2,f3⟩:=b.sub "WebError" (.head _);rw[f.ns]at f1;cases f1;refine⟨C,rfl,by rw[f3];simp[cD],λP Y=>?_⟩;have xe:Ext Z U Z (upd U P (.ext (nZ C P od))):=fM Y;have g:RelD X.K Z (upd U P (.ext (nZ C P od))) (.exc nm es) (.ref P):=by
      rcases l with⟨rfl,rfl⟩|⟨dx,fs,rfl,g1,g2,g3⟩
      ·exact .exc W bg
      ·exact .excF W bg (by rw[aM (aN g1 Y)];exact g1) g2 (g3.later rep1 xe)
     exact q Z _ (R.trans xe) (gX rep1 Y) _ (RelE.unset jn ((((re.later rep R).later rep1 xe).set g jn).set g jy))
    |_=>cases e
end
def xC:List Nat->S3.aI->Option (List D)
 |[],_=>ar []
 |j::r,ρ=>match ρ[j]? with
  |some (ar d)=>(xC r ρ).map (d::·)
  |_=>none
theorem yM{K:dt}{ι:List b_}{H:Hp}{ρ:S3.aI}{Z:L2.St}(Y:RelE K ι H ρ Z):∀{js:List Nat} {ds:List D},xC js ρ=ar ds->∃vs,RelDs K ι H ds vs/\vs.length=js.length/\∀(i j:Nat) (v:V),js[i]? =ar j->vs[i]? =ar v->Z[j]? =ar (ar v)
 |[],ds,e=>by
  cases e;exact⟨[],.nil,rfl,λi j v h=>by simp at h⟩
 | j ::r,ds,e=>by
  unfold xC at e;cases q:ρ[j]? with
  |none=>rw[q]at e;cases e
  | some o=>
   cases o with
   |none=>rw[q]at e;cases e
   | some d=>
    rw[q]at e;cases q2:xC r ρ with
    |none=>rw[q2]at e;cases e
    |some es=>
     rw[q2]at e;cases e;obtain⟨v,X,S⟩:=Y.get q;obtain⟨vs,g1,g2,g3⟩:=yM Y q2;refine⟨v::vs,.cons S g1,by simp[g2],λi U T e1 e2=>?_⟩;cases i with
     |zero=>simp at e1 e2;subst e1 e2;exact X
     |succ i=>exact g3 i U T (by simpa using e1) (by simpa using e2)
structure LamScope(X:Cx)(scope:Scope)(N3:List Str)(js:List Nat):Prop where
 kind:scope.kind= .function
 nocell:∀y∈scope.names,y.2≠ .cell
 co:scope.isCoroutine=dr
 gen:scope.isGenerator=dr
 free:∀y∈scope.names,y.2= .free->X.env.kindOf y.1=ar .cell\/X.env.kindOf y.1=ar .free
 len:js.length=N3.length
 ix:∀(i:Nat) (x:Str) (j:Nat),N3[i]? =ar x->js[i]? =ar j->X.N[j]? =ar x/\scope.names.lookup x=ar .free
def KR(fs:Scope)(N:List Str)(scope:Scope)(N3:List Str)(js:List Nat):Bool:=
 (scope.kind== .function) && scope.names.all (λy=>y.2 != .cell) && !scope.isCoroutine && !scope.isGenerator &&
  scope.names.all (λy=>y.2 != .free||(fs.names.lookup y.1==ar .cell||fs.names.lookup y.1==ar .free)) && (js.length==N3.length) &&
  (N3.zip js).all (λp=>N[p.2]? ==ar p.1 && scope.names.lookup p.1==ar .free)
theorem KS{X:Cx}(Z:Scope)(N:List Str)(O:∀x,X.env.kindOf x=Z.names.lookup x)(U:X.N=N)(h:KR Z N scope N3 js=c_):LamScope X scope N3 js:=by
 unfold KR at h;simp only[hO,rb,beq_iff_eq,bne_iff_ne,G_,Rg]at h;obtain⟨⟨⟨⟨⟨⟨Y,K⟩,L⟩,T⟩,P⟩,S⟩,Q⟩:=h;refine⟨Y,K,L,T,λy R e=>?_,S,λi x j e1 e2=>?_⟩
 ·rw[O];exact(P y R).resolve_left λz=>z e
 ·have W:(N3.zip js)[i]? =ar (x,j):=PC.mpr ⟨e1,e2⟩;have:=Q _ (NU W);rw[U];exact this
def Cu(K:dt)(R:D->M D->List D->M D)(a c':b_)(ql:Str)(ds:List D)(vs:List V)(m:TM):Sp:=λus H Q _=>
 ∃ ι S rest es,us= .ref a::rest/\Rep K ι H S/\H c'=ar (.ext (rq ql c'))/\RelDs K ι H ds vs/\RelDs K ι H es rest/\cont K fH (R (.fn a c' ql ds vs) (m (ds.map ar)) es) ι S H (lg K Q)
structure RefX(P:eb)(w:er)(K:dt)(mg:Str->Option aC)(k k0:Nat)(x:Str)(ps:List Str)(R:D->M D->List D->M D):Prop where
 ex:∃fr fd,mg x=ar (.ref fr)/\A_ K (.ref fr)=c_/\Binds K fd ps []/\∀base,Mod K mg base->∀a c' ql ds vs m,LamOk P w K mg base k0 a (KQ K c' ql ds vs m)->FnOk P w K mg base (oG P w) k fr fd ps (Cu K R a c' ql ds vs m)
abbrev vK(js:List Nat)(ms:aI->M (List D))(m:TM)(R:M D->List D->M D):TM:=λρ=>match xC js ρ with
 |some ds=>(do let es<-ms ρ;R (m (ds.map ar)) es)
 |none=>M.fail
theorem kB{h Z:fg}:∀{l:List Env},h.FunFrames base l->(∀b∈jw l,Z.get? b=none)->h.FunFrames Z l
 |[],_,_=>trivial
 |env::rest,⟨hk,⟨L,o,hf,_,ho,hd⟩,hr⟩,hn=>by
  rw[vE rest L env hf]at hn;exact⟨hk,⟨L,o,hf,hn L (.head _),ho,hd⟩,kB hr λb Y=>hn b (.tail _ Y)⟩
abbrev jL(X:Cx)(H:Hp)(h:fg):Heap:=W.hideAll (kq h H) (jw X.stack)
theorem kQ{X:Cx}{H:Hp}{h:fg}(e:h.get? b=ar o)(n:H b=none)(Z:b∉jw X.stack):(jL X H h).get? b=ar o:=W.hideAll_get _ (lj e n) Z
section
variable {X:Cx}{pins:List (b_×Obj)}{σ:L2.St}{H:Hp}{s:a_}
theorem mj(I:L2.Inv X pins σ H s):∀b o,X.base.get? b=ar o->(jL X H s.heap).get? b=ar o:=λb o e=>by obtain⟨Y,Z⟩:=I.bs b o e;refine kQ Y Z λz=>?_;have:=(I.stack.mem z).1;rw[e]at this;cases this
theorem ir(I:L2.Inv X pins σ H s):Mod X.K X.mg (jL X H s.heap):=
 ⟨I.mod.kin.keeps (mj I),I.mod.glob.keeps (mj I),let ⟨mb,h1,h2⟩:=I.mod.blt;⟨mb,h1.keeps (mj I),h2⟩,I.mod.nolimit.keeps (mj I)⟩
theorem Fn(I:L2.Inv X pins σ H s):L2.aI X.prog X.w X.K X.mg (jL X H s.heap) X.A X.stack s H:=
 ⟨I.ok.frames,ir I,λb o e=>sV (W.of_hideAll _ e),by rw[W.hideAll_size,mJ];exact Nu _,kB I.stack λb Z=>W.hideAll_none _ Z,I.stkFree,I.hok,I.bare⟩
theorem yN(I:L2.Inv X pins σ H s)(Z:∀x,X.fn x=c_)(e:X.env.cells.lookup x=ar c)(h:s.heap.IsCell c v):(jL X H s.heap).IsCell c v:=by
 obtain⟨o,Y,W⟩:=h;refine⟨o,kQ Y (I.freeC x c e) λz=>?_,W⟩;rcases NB.mp (I.stkSub c z)with z|z
 ·exact I.cne x c e z
 ·obtain⟨_,U,q,_⟩:=I.ok.funs.mem z;exact absurd (Ny q) (RB.mpr (I.ok.cab x c (Z x) e))
end
section
variable {X:Cx}{x xl ql:Str}{k k0:Nat}{ps N3:List Str}{js:List Nat}{R:D->M D->List D->M D}{R':M D->List D->M D}{params:R7}{body:Expr}{scope:Scope}{lpos p pos:Pos}{es:List Expr}{ms:aI->M (List D)}{m:TM}{c P:b_}
theorem Cv(d:RefX X.prog X.w X.K X.mg k (k0+1) x ps R)(hR:∀f c es,R f c es=R' c es)(hr:Room k X.A)(b4:∀x,X.fn x=c_)(c5:xl∈cg)(ht:mu X.K xl=ar (c,P))(a3:X.env.code= .ref c)(hq:X.env.qual++"<lambda>"=ql)(d2:ql=xl++".<locals>.<lambda>")
  (B:BaseL X.K X.mg X.base) (TI:uc X.K) (a6:defaultsOf params X.env=([],[])) (b:LamScope X scope N3 js) (ha:SA X fH es ms)
  (a4:∀(T:b_) (cl:List (Str×b_)) (pm C:aC),SY (TV "<lambda>" ql params body scope cl pm (.ref T) C) ⟨[],[]⟩=aw [])
  (a9:∀(base:fg),Mod X.K X.mg base->∀(f T:b_) (cl:List (Str×b_)) (A:g_) (outer:List Env) (s:a_) (H:Hp) (Ek:XK),Room k0 (A.deeper (jK ql scope f T cl s))->SE (vH X.prog X.w X.K X.mg base N3 ql scope f T cl A outer s H Ek) (Bb X.K Ek) body m)
  (hg:Gl X x:=by rfl) (e5:(x==("__debug__":Str))=false:=by decide)
  (he:dV (.Lambda params body scope lpos::es) X.env=(dr,g6 (.Lambda params body scope lpos) X.env)::dV es X.env:=by rfl) (c8:(u' pos (dV es X.env)).any (·.1)=false:=by rfl):
  SE X fH (.Call (.Name x p) (.Lambda params body scope lpos::es) [] pos) (vK js ms m R'):=by
 intro pins s σ H Q I h;obtain⟨ι,S,ρ,rep,re,g⟩:=h;obtain⟨fr,fd,hm,hk,hb,F⟩:=d.ex;have g:cont X.K fH (vK js ms m R' ρ) ι S H (lg X.K Q):=g;unfold vK at g;cases hcap:xC js ρ with
 |none=>rw[hcap]at g;exact(ag g).elim
 |some ds=>
 rw[hcap]at g;dsimp only at g;obtain⟨vs,d0,b6,c6⟩:=yM re hcap;have l:∀y∈scope.names,y.2= .free->∃a,X.env.cells.lookup y.1=ar a:=λy hy e=>I.ok.has y.1 (b.free y hy e);refine Po (lq I hg hm ?_ e5);refine W.callWith_K (h₀:=X.base) I.ok.mod.kin hk (spliced_more (IG c5 ht a3 hq d2 B TI (lH scope X.env l) a6 I rep.tab λf T C pm H1 s1 I1 b0 e4 c9 a8 E g5 hT=>?_) he) he c8;have x1:Ext ι H ι H1:=⟨⟨[],by simp⟩,λa o e n t=>⟨E a o e t,n⟩⟩;have rep1:Rep X.K ι H1 S:=⟨rep.nd,rep.len,λkk a xs e1 e2=>let ⟨ws,g1,g2⟩:=rep.get kk a xs e1 e2;⟨ws,E _ _ g1 (by intro _ z;cases z),g2.later rep x1⟩,hT⟩;have e7:L2.Inv X ((f,D_ "<lambda>" ql params body scope (jB X.env.cells scope.names []) pm T C)::pins) σ H1 s1:=I1.pins_of λq Y=>by
  rcases NB.mp Y with rfl|Y
  ·exact⟨e4,c9,j' (NL (NK I.lt b0)),I.nofs b0,λv z=>by cases z⟩
  ·exact I1.pin q (NS _ Y)
 refine dq (ha pos _ s1 σ H1 (λN O=>∃U S2 L,Ext ι H1 U O/\Rep X.K U O S2/\RelDs X.K U O L N/\cont X.K fH (R' (m (ds.map ar)) L) U S2 O (lg X.K Q)) e7 ⟨ι,S,ρ,rep1,re.later rep x1,ak (ai (gC g x1)) λL U S2 O e2 rep2 c2 N r2=>⟨U,S2,L,e2,rep2,r2,c2⟩⟩) λus s2 d3=>?_;obtain⟨N,O,a0,rv,U,S2,L,x2,rep2,r2,c2⟩:=d3;have J:L2.Inv X pins σ O s2:=a0.pins_of λq Y=>a0.pin q (NS _ (.tail _ Y));refine⟨J.kIn,?_⟩;show d_ _ _ (call (.ref fr) (.ref f::us)) _ _ _;obtain⟨po,pn,pl,pf,_⟩:=a0.pin (f,_) (NS _ (.head _));have c7:O T=ar (.ext (rq ql T)):=(x2.oth T _ a8 (rep1.notIn a8 (by intro _ z;cases z)) (by intro _ z;cases z)).1;have nf:f∉jw X.stack:=λz=>by
  rcases NB.mp (J.stkSub f z)with z|z
  ·exact pl z
  ·exact pf z
 have e6:=tE (cells:=X.env.cells) scope.names [] l (λ_ z=>nomatch z);have Z:∀y a,(jB X.env.cells scope.names []).lookup y=ar a->X.env.cells.lookup y=ar a:=λy a e=>e6 _ (lookup_mem e);have cp:Caps (jL X O s2.heap) scope (jB X.env.cells scope.names []) N3 vs:=by
  refine⟨b.kind,b.nocell,b.co,b.gen,λy z a e1 e2=>I.ok.inj y z a (Z y a e1) (Z z a e2),λy e=>mem_lookup (jC scope.names [] (.inl (bz e))),λy a e=>?_,by rw[b6];exact b.len,λi y v e1 e2=>?_⟩
  ·obtain⟨v,z⟩:=J.cell y a (Z y a e);exact⟨v,yN J b4 (Z y a e) z⟩
  ·have e0:i<js.length:=by rw[<-b6];exact(Nx.mp e2).1
   obtain⟨j,hj⟩:∃j,js[i]? =ar j:=⟨_,Nw e0⟩;obtain⟨g1,g2⟩:=b.ix i y j e1 hj;have hv:=c6 i j v hj e2;have b5:=b.free (y,.free) (bz g2) rfl;have a7:Gv X.env.scope y:=by
    rcases b5 with z|z
    ·exact .inr (.inl z)
    ·exact .inr (.inr z)
   obtain⟨mm,h5,hl⟩:=J.loc;obtain⟨u,ru,lk⟩:=hl j y v g1 hv a7;refine⟨g2,?_⟩;rcases lk with⟨z,_⟩|⟨_,a,ea,hca⟩
   ·have z':X.env.kindOf y=ar .local:=z;rcases b5 with w'|w'
    ·have w2:X.env.kindOf y=ar .cell:=w';rw[z']at w2;cases w2
    ·have w2:X.env.kindOf y=ar .free:=w';rw[z']at w2;cases w2
   ·obtain⟨a2,b2⟩:=mem_lookup (jC (cells:=X.env.cells) scope.names [] (.inl (bz g2)));have:=Z y a2 b2;rw[ea]at this;cases this;exact⟨a,u,b2,ru,yN J b4 ea hca⟩
 have LO:LamOk X.prog X.w X.K X.mg (jL X O s2.heap) (k0+1) f (KQ X.K T ql ds vs m):=IJ (kQ po pn nf) cp (a4 T _ pm C) λA outer s H Ek e3=>a9 _ (ir J) f T _ A outer s H Ek e3;have G:=F (jL X O s2.heap) (ir J) f T ql ds vs m LO;have sp:Cu X.K R f T ql ds vs m (.ref f::N) O Q E0:=⟨U,S2,N,L,rfl,rep2,c7,(d0.later rep x1).later rep1 x2,r2,by rw[hR];exact c2⟩;have hlen:(ee f::us).length=ps.length:=by have:=G.len _ _ _ _ sp;rw[<-this,NH,NH,rv.length]
 refine Q3 (Pq (G.run X.A X.stack s2 O ⟨.ref f::us,[]⟩ (.ref f::us) (.ref f::N) Q E0 hr (Fn J) (by have:=hb s2 (.ref f::us) J.kIn (by rw[Om];exact hlen);rw[Om]at this;exact this) (.cons rfl rv) sp) λr s' Y=>?_);cases r with
 |error e=>obtain⟨_,_,_,_,_,_,_,_,_,_,_,_,_,_,_,z⟩:=Y;exact j1 z
 |ok fl=>
  cases fl with
  |ret u=>exact J.after Y
  |next=>exact j1 Y
  |brk=>exact j1 Y
  |cont=>exact j1 Y
end
def jM(K:dt):List Addr:=cg.filterMap λy=>(mu K y).map (·.2)
theorem AI{K:dt}{y:Str}{c P:b_}(Z:y∈cg)(e:mu K y=ar (c,P)):P∈jM K:=OR.mpr ⟨y,Z,by rw[e];rfl⟩
theorem vL{K:dt}{P:b_}(h:P∈jM K):∃y c,y∈cg/\mu K y=ar (c,P):=by
 obtain⟨y,Z,e⟩:=OR.mp h;cases q:mu K y with
 |none=>rw[q]at e;cases e
 |some p=>rw[q]at e;cases e;exact⟨y,p.1,Z,q⟩
theorem Fo{K:dt}{mb:Str->Option aC}{sp:Sp}{Z:a_}{vs:List aC}
  (KX:K.In Z.heap) (nt:TY K=c_) (j:Z.heap.Ns f_ mg) (hb:Z.heap.Ns y_ mb) (p:∀x:Str,x≠"__name__"->mb x=la x) (B:Z.heap.NoLimit) (hg:Z.gens= #[])
  (g:∃bm G,mg "__builtins__"=ar (.ref bm)/\bm≠y_/\Z.heap.get? bm=ar G/\G.cls= .type "module"/\G.dict=ar y_/\G.data= .plain)
  (U:∀y∈cg,∀c Q,mu K y=ar (c,Q)->R0 Z.heap c Q/\Z.heap.get? Q=ar (B' #[]))
  (I:Z.heap.get? a=ar {cls:=.type "list",data:=.seq vs.toArray}) (hi:n_ vs ns) (hl:ns.length<=sizeLine) (hr:Room k B_)
  (F:∀base:fg,Mod K mg base->BaseL K mg base->FnOk P w K mg base (oG P w) k fa fd [x] sp) (L:∀(s:a_) (u:aC),Q8 s fd ⟨[u],[]⟩ [(x,u)])
  (l:∀H:Hp,TabsOk K H->Em K H a (ns.map V.int)->sp [.ref a] H (λv _=>v= .bl c_) λ_ _ _=>False):
  K_ (eK P w) B_ (.call (.ref fa) ⟨[.ref a],[]⟩) (λr s'=>r= .ok (.ret (.bool c_))/\OldK Z.heap s'.heap/\s'.os=Z.os/\D' s'.gens) Z:=by
 have rv:=jY hi;have X:∀Q∈jM K,Z.heap.get? Q=ar (B' #[]):=λQ hQ=>let ⟨y,c,O,e⟩:=vL hQ;(U y O c Q e).2;have aT:a∉jM K:=λz=>by have:=X a z;rw[I]at this;cases this
 let H:Hp:=λb=>if b∈jM K then ar (.tbl #[])else if b=a/\K.lookup a=none then ar (.frz {cls:=.type "list",data:=.seq vs.toArray} (.lst (ns.map V.int)))else none;have hT:∀b∈jM K,H b=ar (.tbl #[]):=λb z=>if_pos z;have J:∀b,b∉jM K->H b=if b=a/\K.lookup a=none then ar (.frz {cls:=.type "list",data:=.seq vs.toArray} (.lst (ns.map V.int)))else none:=λb z=>if_neg z;have free:∀{b:b_} {o:Obj},Z.heap.get? b=ar o->o≠B' #[]->(o.cls≠ .type "list"\/K.lookup b=ar o)->H b=none:=λ{b o} e i T=>by
  have z:b∉jM K:=λz=>by have:=X b z;rw[e]at this;exact i (NW this)
  rw[J b z,if_neg];rintro⟨rfl,kn⟩;rcases T with T|T
  ·rw[I]at e;cases e;exact T rfl
  ·rw[kn]at T;cases T
 have R:∀{b:b_} {o:Obj},K.lookup b=ar o->o≠B' #[]:=λ{b o} e z=>by have f:=NT.mp nt (b,o) (W.mem_of_lookupK e);subst z;exact absurd (show dr=c_ from f) OS
 have C:gh P w H Z.heap:=λb u e=>by
  by_cases z:b∈jM K
  ·rw[hT b z]at e;cases e;exact X b z
  ·rw[J b z]at e;by_cases q:b=a/\K.lookup a=none
   ·rw[if_pos q]at e;cases e;obtain⟨rfl,_⟩:=q;exact⟨I,by rw[Nt];exact hl,vs,_,rv,I⟩
   ·rw[if_neg q]at e;cases e
 have Y:∀{b:b_} {o:Obj},Z.heap.get? b=ar o->o≠B' #[]->(o.cls≠ .type "list"\/K.lookup b=ar o)->(kq Z.heap H).get? b=ar o:=λe i T=>lj e (free e i T);have N:∀{b:b_} {m:Str->Option aC},Z.heap.Ns b m->(kq Z.heap H).Ns b m:=λ{b m} ⟨o,es,ep,e,d,r⟩=>by
  have z:H b=none:=by
   by_cases zt:b∈jM K
   ·have:=X b zt;rw[e]at this;cases this;cases d
   ·rw[J b zt,if_neg];rintro⟨rfl,_⟩;rw[I]at e;cases e;cases d
  exact⟨o,es,ep,lj e z,d,r⟩
 have a4:K.In (kq Z.heap H):=λb o e=>Y (KX b o e) (R e) (.inr e);have hM:Mod K mg (kq Z.heap H):=⟨a4,N j,⟨mb,N hb,p⟩,let ⟨mc,h1,f⟩:=B;⟨mc,N h1,f⟩⟩;have hB:BaseL K mg (kq Z.heap H):=by
  refine⟨?_,λy O c Q e=>?_⟩
  ·obtain⟨bm,G,b1,b2,b3,t,b5,b6⟩:=g;exact⟨bm,G,b1,b2,Y b3 (λz=>by rw[z]at t;cases t) (.inl (by rw[t];decide)),t,b5,b6⟩
  ·obtain⟨o,v2,file,tf,flags,tg,a0,text,tt,e1,A,r⟩:=(U y O c Q e).1;exact⟨o,v2,file,tf,flags,tg,a0,text,tt,Y e1 (λz=>by rw[z]at A;cases A) (.inl (by rw[A];decide)),A,r⟩
 have e0:L2.aI P w K mg (kq Z.heap H) B_ [] Z H:=⟨rfl,hM,λb o e=>sV e,PR (mJ _ _),trivial,λb hb=>absurd (show b∈([]:List b_)from hb) (by simp),C,.of_eq hg⟩;have n:TabsOk K H:=λy O c Q e=>⟨#[],hT Q (AI O e),trivial,λpos cv q=>by cases q⟩;have E:Em K H a (ns.map V.int):=by
  cases hk:K.lookup a with
  |some o=>
   have e:=KX a o hk;rw[I]at e;cases e;exact .inr ⟨_,vs.toArray,_,hk,rfl,rfl,rfl,by rw[NG,hi.length];exact hl,by simpa using rv⟩
  |none=>exact .inl ⟨_,by rw[J a aT,if_pos ⟨rfl,hk⟩]⟩
 refine Pq ((F _ hM hB).run B_ [] Z H ⟨[.ref a],[]⟩ [.ref a] [.ref a] _ _ hr e0 (L Z (.ref a)) (.cons rfl .nil) (l H n E)) λr s' h=>?_;cases r with
 |error e=>obtain⟨_,_,_,_,_,_,_,_,_,_,_,_,_,_,_,z⟩:=h;exact j1 z
 | ok fl=>
  cases fl with
  |next=>exact j1 h
  |brk=>exact j1 h
  |cont=>exact j1 h
  | ret u=>
   obtain⟨v,H',os,bare,un,S,r',q⟩:=h;have q':v= .bl true:=q;subst q';obtain rfl:u=u_ true:=r';refine⟨rfl,⟨λb o e=>?_,λb o e=>un.there b o e (by simp)⟩,os,bare⟩;by_cases zt:b∈jM K
   ·obtain⟨y,c,O,et⟩:=vL zt;obtain⟨hc,hP⟩:=U y O c b et;obtain⟨more,em⟩:=un.tbls b _ (hT b zt);have o2:s'.heap.get? b=ar {cls:=.none,data:=.fields (#[]++more)}:=S b _ em;rw[hP]at e;cases e;exact .inr (.inl ⟨(hc.tab hP).isCodeTable,rfl, #[],more,rfl,o2⟩)
   ·by_cases qa:b=a/\K.lookup a=none
    ·have z1:H b=ar (.frz {cls:=.type "list",data:=.seq vs.toArray} (.lst (ns.map V.int))):=by rw[J b zt,if_pos qa]
     obtain⟨e2,_⟩:=S b _ (un.frzs b _ _ z1);obtain⟨e1,_⟩:=C b _ z1;rw[e]at e1;cases e1;exact .inl e2
    ·exact .inl (un.keep b o e (by rw[J b zt,if_neg qa]) (by intro z;exact absurd (show b∈([]:List b_)from z) (by simp)) (by simp))
theorem Cw{l:Tn}{YP:er->fg->Prop}{d:T6}{K:Rx->dt}{sp:er->Sp}
  (j:l.most=ar n) (R:n<=sizeLine) (O:d.params.defaults=[]) (A:Room k B_)
  (E:∀(w:er) (h:fg),YP w h->(K w.params).In h) (m:∀w:er,TY (K w.params)=c_)
  (U:∀(w:er) (h:fg),YP w h->∀y∈cg,∀c Q,mu (K w.params) y=ar (c,Q)->R0 h c Q/\h.get? Q=ar (B' #[]))
  (F:∀(w:er) (Z:Str->Option aC) (S:b_) (h:fg),(K w.params).In h->h.Ns f_ Z->Z d.name=ar (.ref S)->
   ∃fd:f',(∀(s:a_) (u:aC),Q8 s fd ⟨[u],[]⟩ [(x,u)])/\
    ∀base:fg,Mod (K w.params) Z base->BaseL (K w.params) Z base->FnOk l.prog w (K w.params) Z base (oG l.prog w) k S fd [x] (sp w))
  (N:∀(w:er) (H:Hp) (a:b_) (ns:List Int),ns.length<=n->TabsOk (K w.params) H->Em (K w.params) H a (ns.map V.int)->sp w [.ref a] H (λv _=>v= .bl c_) λ_ _ _=>False):
  Ud q loose XP YP l.row.toRowW d [] (λf vs=>PySem.call f vs):=by
 refine Att.attach_call j O λw s₀ L Z mb S o pm cd doc a vs ns G Y i hd B P X hints hlen t=>?_;have J:=E w _ Y;obtain⟨fd,z,I⟩:=F w Z S _ J G.T.g P;refine Fo J (m w) G.T.g G.T.b G.T.builtins G.T.nolimit t G.T.bmain (λy p c Q e=>U w _ Y y p c Q e) X hints (Nz hlen R) A I z λH r C=>N w H a ns hlen r C
def KU(K:dt)(ts:List b_):Bool:=cg.all λy=>match mu K y with
 |some (c,Q)=>W.codeHdIn K c Q && ts.contains Q
 |none=>c_
theorem ME{K:Rx->dt}{e:∀P,as=(K P).map (·.1)}{w:er}(X:KU (K w.params) ts=c_)(Y:(W.kmHook K as e ts).says w h):
  ∀y∈cg,∀c Q,mu (K w.params) y=ar (c,Q)->R0 h c Q/\h.get? Q=ar (B' #[]):=λy U c Q Z=>by
 have:=NT.mp X y U;rw[Z]at this;simp only[hO]at this;exact⟨W.codeHd_of_K (W.km_in_of Y) this.1,W.km_tabs_of Y Q (List.contains_iff_mem.mp this.2)⟩
def GN(K:dt):Bool:=cg.all λx=>cg.all λy=>match mu K x,mu K y with
 |some (_,P),ar (_,Q)=>P !=Q||x==y
 |_,_=>c_
theorem IL{K:dt}(h:GN K=c_):uc K:=λx Z y Y c d P e1 e2=>by have:=NT.mp (NT.mp h x Z) y Y;rw[e1,e2]at this;simpa using this
def mn(N n:Nat)(m:du):List D->M D:=rZ N n (λρ=>oa (m ρ))
section
variable {P:eb}{w:er}{K:dt}{mg:Str->Option aC}{base:fg}
theorem bU{x qual:Str}{st:sb}{f:b_}{U:f'}{N X:List Str}{k:Nat}{m:du}{T:List D->M D}(F:Fun K x qual st f U)(Q:mg x=ar (.ref f))(S:Binds K U X [])(O:FnScope N X (aA st))(R:T=mn N.length X.length m)
  (Y:∀(Z:aC) (A:g_) (outer:List Env) (s:a_) (H:Hp) (E:XK),Room k (A.deeper (G2 qual (aA st) s.heap.objs.size f Z))->
   vh (oV (oG P w) P w K mg base N qual (aA st) f Z A outer s H E).nox fH (dC st) m):DefX P w K mg base (k+1) x X T:=
 ⟨f,U,by rw[R];exact IH F O λZ A outer s H L J _ _=>vF (ud (Y Z A outer s H L J)),Q,F.kp,S⟩
theorem ue{x qual:Str}{st:sb}{f:b_}{U:f'}{N X:List Str}{k:Nat}{m:du}{T:List D->M D}(F:Fun K x qual st f U)(Q:mg x=ar (.ref f))(S:Binds K U X [])(O:FnScope N X (aA st))(R:T=rZ N.length X.length m)
  (Y:∀(Z:aC) (A:g_) (outer:List Env) (s:a_) (H:Hp) (E:XK),Room k (A.deeper (G2 qual (aA st) s.heap.objs.size f Z))->
   vh (oV (oG P w) P w K mg base N qual (aA st) f Z A outer s H E) (Bb K E) (dC st) m):DefX P w K mg base (k+1) x X T:=
 ⟨f,U,by rw[R];exact IH F O λZ A outer s H L J _ _=>Y Z A outer s H L J,Q,F.kp,S⟩
theorem Fp{x y qual:Str}{f c H:b_}{I:aC}{od:Option b_}{U:Array (Option aC)}{kV X R Y ct T:aC}{N:Option b_}{O:R7}{S:List sb}{L:Scope}(Q:v_ K f_ x=ar (ar (.ref f)))
  (J:K.lookup f=ar ⟨I,od,.func (C_ y qual O S L T kV X R N Y ct),U⟩) (Z:mu K x=ar (c,H)):Y= .ref c:=by
 unfold mu at Z;rw[Q]at Z;dsimp only at Z;rw[J]at Z;dsimp only at Z;cases Y with
 | ref c2=>
  dsimp only at Z;split at Z
  ·split at Z
   ·cases Z;rfl
   ·cases Z
  ·cases Z
 |_=>cases Z
theorem IM{x qual:Str}{st:sb}{f:b_}{T:f'}{N Y:List Str}{k:Nat}{m:du}{S:List D->M D}{c B:b_}(F:Fun K x qual st f T)(L:FnScope N Y (aA st))(R:S=mn N.length Y.length m)(J:v_ K f_ x=ar (ar (.ref f)))(Q:mu K x=ar (c,B))
  (Z:∀(A:g_) (outer:List Env) (s:a_) (H:Hp) (E:XK),Room k (A.deeper (G2 qual (aA st) s.heap.objs.size f (.ref c)))->
   vh (oV (oG P w) P w K mg base N qual (aA st) f (.ref c) A outer s H E).nox fH (dC st) m):FnOk P w K mg base (oG P w) (k+1) f T Y (Cp K S):=by
 rw[R];refine IH F L λX A outer s H C O _ U=>?_;obtain⟨y,od,z,kV,doc,pm,an,ct,G⟩:=U;have I:X= .ref c:=Fp J G Q;subst I;exact vF (ud (Z A outer s H C O))
theorem IP{x qual:Str}{st:sb}{f:b_}{B:f'}{N Z:List Str}{k k0:Nat}{m:D->M D->du}{R:D->M D->List D->M D}(F:Fun K x qual st f B)(v:mg x=ar (.ref f))(p:Binds K B Z [])(l:FnScope N Z (aA st))(n:R=λO c es=>rZ N.length Z.length (m O c) (O::es))
  (U:∀(base:fg),Mod K mg base->∀(a X:b_) (ql:Str) (ds:List D) (vs:List V) (T:TM),LamOk P w K mg base k0 a (KQ K X ql ds vs T)->∀(Y:aC) (A:g_) (outer:List Env) (s:a_) (H:Hp) (E:XK),Room k (A.deeper (G2 qual (aA st) s.heap.objs.size f Y))->
   vh (oV (oG P w) P w K mg base N qual (aA st) f Y A outer s H E).nox fH (dC st) (m (.fn a X ql ds vs) (T (ds.map ar)))):RefX P w K mg (k+1) k0 x Z R:=by
 refine⟨f,B,v,F.kp,p,λbase G a X ql ds vs T L=>?_⟩;rw[n];obtain⟨e,od,kV,doc,pm,an,Y,ct,t,rfl,j,z⟩:=F.ex;have key:∀{us:List V} {H:Hp} {Q:VK} {I:XK},Cu K (λO c es=>rZ N.length Z.length (m O c) (O::es)) a X ql ds vs T us H Q I->us.length=Z.length/\∃ ι S es,Rep K ι H S/\RelDs K ι H es us/\cont K fH (do let o<-m (.fn a X ql ds vs) (T (ds.map ar)) (es.map ar++k_ (N.length - Z.length) none);outD o) ι S H (lg K Q):=by
  rintro us H Q I ⟨ι,S,rest,es,rfl,rep,hc',rds,res,c⟩;have y:RelDs K ι H (.fn a X ql ds vs::es) (.ref a::rest):=.cons (.fn hc' rds) res;unfold rZ at c;dsimp only at c;by_cases J:(D.fn a X ql ds vs::es).length=Z.length
  ·rw[if_pos J]at c;exact⟨by rw[<-y.length];exact J,ι,S,_,rep,y,c⟩
  ·rw[if_neg J]at c;exact(ag c).elim
 refine Gx j z l (λus H Q I h=>(key h).1) λA outer s H us Q I q h=>⟨_,ud (U base G a X ql ds vs T L Y A outer s H I q),?_⟩;obtain⟨J,ι,S,es,rep,r,c⟩:=key h;refine⟨ι,S,_,rep,?_,ak (ai c) λo i S1 g e1 rep1 C=>?_⟩
 ·have:=RelE.start r (N.length - Z.length);unfold L2.start;rw[J];exact this
 ·cases o with
  |nx ρ=>exact λu _=>ah C .refl rep1 _ .non
  |ret d=>exact ah C .refl rep1
  |bk ρ=>exact(ag C).elim
  |ct ρ=>exact(ag C).elim
end
end S7
section
namespace S4
open PySem PySem.Spec PyProof.Rows
section
variable {prog:eb}{w:er}{A:g_}{E:aC->a_->Prop}{s:a_}
end
end S4
namespace S3
open PySem PySem.Spec PyProof.Rows L2 S4
section
variable {X:Cx}{E:XD}{e:Expr}{m:TM}{pos:Pos}
end
end S3
end
namespace S4
open PySem PySem.Spec PyProof.Rows L2 S3
def Fq(l1 l2:b_):It:=⟨λi H=>∃va vb,Rd H l1 (.lst va)/\Rd H l2 (.lst vb)/\i<va.length/\i<vb.length,
 λi H x H'=>∃va vb p u v,Rd H l1 (.lst va)/\Rd H l2 (.lst vb)/\H p=none/\va[i]? =ar u/\vb[i]? =ar v/\x= .ref p/\H'=upd H p (.tup [u,v]),λi H=>∃va vb,Rd H l1 (.lst va)/\Rd H l2 (.lst vb)/\(va.length<=i\/vb.length<=i)⟩
theorem AJ{P:eb}{w:er}{K:dt}{C:List Expr}{x1}{tp:Pos}{z TI TO N O j l2:b_}(D:Tf z TI TO N O j l2):
  Turn P w K (.Tuple C x1 tp) (Fq j l2) [z,TI,TO,N,O] z
   (λi h=>RL h z TI TO .none/\q_ h TI (.ref N) (.ref O)/\(∃a b,q_ h TO a b)/\h.IsListIter N j i/\h.IsListIter O l2 i) where
 mem:=by simp
 obj:=λi h st b Z=>by
  obtain⟨R,Y,⟨a,c,U⟩,⟨o1,e1,c1,d1⟩,⟨o2,e2,c2,d2⟩⟩:=st;simp only[gg,e_,or_false]at Z;rcases Z with rfl|rfl|rfl|rfl|rfl
  ·exact⟨_,R,λv z=>by cases z⟩
  ·exact⟨_,Y,λv z=>by cases z⟩
  ·exact⟨_,U,λv z=>by cases z⟩
  ·exact⟨_,e1,λv z=>by rw[d1]at z;cases z⟩
  ·exact⟨_,e2,λv z=>by rw[d2]at z;cases z⟩
 keep:=λi h h' st k=>by obtain⟨R,Y,⟨a,c,U⟩,J,G⟩:=st;exact⟨k z (by simp) _ R,k TI (by simp) _ Y,⟨a,c,k TO (by simp) _ U⟩,J.at λo e=>k N (by simp) o e,G.at λo e=>k O (by simp) o e⟩
 item:=by
  intro X l hw hK hc i pins s σ H E I hf st hg;subst l hw hK;obtain⟨R,Y,⟨a,c,U⟩,J,G⟩:=st;obtain⟨n,t,r,q,ga,gb⟩:=hg;obtain⟨u,Q,f,_⟩:=I.list (.inl r);obtain⟨B,L,m,_⟩:=I.list (.inl q);obtain⟨u1,a8,b4⟩:=Q.get (Nw ga);obtain⟨u2,a9,b1⟩:=L.get (Nw gb);refine wpAny_pyNext_zip_item D R Y U J G f.isList m.isList (x:=u1) (y:=u2) (by simpa using a8) (by simpa using a9) λh' a1 a2 a3 a4 a5 a6 p=>?_;have d:H s.heap.objs.size=none:=I.hok.fresh (Nu _);have lt:∀{c o},s.heap.get? c=ar o->s.heap.objs.size≠c:=λe=>O3 (Ny e);refine⟨_,rfl,QZ a1 λS b0 T=>?_⟩;have F:q_ S TI (.ref N) (.ref O):=T.extBut _ _ D.TIz (p _ _ D.TIz D.TITO D.TIi1 D.TIi2 Y);have kk:∀b o,b∉[z,TI,TO,N,O]->s.heap.get? b=ar o->S.get? b=ar o:=λb o Z e=>by simp only[gg,e_,or_false,not_or]at Z;exact T.extBut _ _ Z.1 (p b o Z.1 Z.2.2.1 Z.2.2.2.1 Z.2.2.2.2 e)
  have A:q_ S s.heap.objs.size u1 u2:=T.extBut _ _ (lt R) a5;have I2:L2.Inv X pins σ (upd H s.heap.objs.size (.tup [n[i],t[i]])) {s with heap:=S,toks:=s.toks}:=yI (o:=.tup [n[i],t[i]]) I hf kk (Nu _) ⟨⟨by show 2<=sizeLine;decide,_,A,rfl⟩,[u1,u2],.cons b4 (.cons b1 .nil),_,A,rfl,_,rfl⟩;refine⟨.ref s.heap.objs.size,_,I2,rfl,
   ⟨n,t,_,_,_,r,q,d,Nw ga,Nw gb,rfl,rfl⟩,⟨b0,F,⟨_,_,T.extBut _ _ D.TOz a2⟩,a3.at λo e=>T.extBut _ _ D.i1z e,a4.at λo e=>T.extBut _ _ D.i2z e⟩,λb Z=>?_⟩
  obtain⟨ob,ho,_⟩:∃ob,s.heap.get? b=ar ob/\True:=by
   simp only[gg,e_,or_false]at Z;rcases Z with rfl|rfl|rfl|rfl|rfl
   ·exact⟨_,R,trivial⟩
   ·exact⟨_,Y,trivial⟩
   ·exact⟨_,U,trivial⟩
   ·obtain⟨o,e,_⟩:=J;exact⟨_,e,trivial⟩
   ·obtain⟨o,e,_⟩:=G;exact⟨_,e,trivial⟩
  rw[aM (NL (Ny ho))];exact(hf b Z).1
 done:=by intro X l hw hK hc i pins s σ H E I hf st hg;subst l hw hK;obtain⟨R,Y,⟨a,c,U⟩,J,G⟩:=st;obtain⟨n,t,r,q,gs⟩:=hg;obtain⟨u,Q,f,_⟩:=I.list (.inl r);obtain⟨B,L,m,_⟩:=I.list (.inl q);have e3:=Q.length;have e4:=L.length;refine wpAny_pyNext_zip_end (I.ok.hd hc) D R Y U J G f.isList m.isList (gs.imp (λg=>by simp;omega) λg=>by simp;omega) λh' p=>⟨rfl,yH (t':=s.toks) I hf λb o Z e=>?_⟩;simp only[gg,e_,or_false,not_or]at Z;exact p b o Z.1 Z.2.2.1 Z.2.2.2.1 Z.2.2.2.2 e
 self:=λ_ _ _ _ _ st h=>Qs st.1 h
theorem Fs{X:Cx}{N:List Expr}{x1}{tp p pos:Pos}{es:List Expr}{e:Expr}{z:TA}(w:Gl X "zip")(y:X.mg "zip"=none)(v:PA X (e::es) z)
  (x:dV (e::es) X.env=(dr,g6 e X.env)::dV es X.env:=by rfl) (A:(u' pos (dV es X.env)).any (·.1)=false:=by rfl):
  PI X (.Tuple N x1 tp) (.Call (.Name "zip" p) (e::es) [] pos) (λσ H R=>z σ H λxs Z=>(∃a b va vb,xs=[.ref a,.ref b]/\Rd Z a (.lst va)/\Rd Z b (.lst vb)/\R (Fq a b) Z)\/
   (∃a b va vb,xs=[.ref a,.ref b]/\Z a=ar (.tup va)/\Z b=ar (.tup vb)/\
   R ⟨λi H=>(Ba va vb).go i H/\(H a=ar (.tup va)/\H b=ar (.tup vb)),(Ba va vb).yld,λi H=>(Ba va vb).stop i H/\(H a=ar (.tup va)/\H b=ar (.tup vb))⟩ Z)):=by
 intro pins s σ H R I h;refine Call_ (mL I w y (show la "zip"=ar (.type "zip") by decide+kernel) (OY (dq (v pos pins s σ H _ I h) λus s1 ⟨vs,Z,I1,r1,q1⟩=>?_) x A) (by decide) (by decide));have fresh:∀c∈[s1.heap.objs.size+4,s1.heap.objs.size+2,s1.heap.objs.size+3,s1.heap.objs.size,s1.heap.objs.size+1],s1.heap.objs.size<=c:=λc Y=>by simp only[gg,e_,or_false]at Y;omega
 rcases q1 with⟨a,b,va,vb,rfl,hA,hB,q⟩|⟨a,b,va,vb,rfl,hA,hB,q⟩
 ·obtain⟨u,E,rfl,G,U⟩:=vals2 r1;cases (show u=ee a from G);cases (show E=ee b from U);obtain⟨J,F,L,_⟩:=I1.list (.inl hA);obtain⟨O,B,P,_⟩:=I1.list (.inl hB);have a1:a<s1.heap.objs.size:=by obtain⟨_,e,_⟩:=L.isList;exact Ny e
  have a2:b<s1.heap.objs.size:=by obtain⟨_,e,_⟩:=P.isList;exact Ny e
  refine call_zip_2 L.isList P.isList λh' K T S Q W _ C=>Qs K ?_;exact⟨s1.heap.objs.size+4,_,_,_,Z,rfl,I1.kept (t':=s1.toks) C,AJ (zipApart_new a1 a2),⟨K,T,⟨_,_,S⟩,Q,W⟩,λc Y=>I1.fpOk (fresh c Y) (I1.hok.fresh (fresh c Y)),q⟩
 ·obtain⟨u,E,rfl,G,U⟩:=vals2 r1;cases (show u=ee a from G);cases (show E=ee b from U);obtain⟨J,F,L,_⟩:=I1.tuple (.of hA);obtain⟨O,B,P,_⟩:=I1.tuple (.of hB);have a1:a<s1.heap.objs.size:=by obtain⟨_,e,_⟩:=L;exact Ny e
  have a2:b<s1.heap.objs.size:=by obtain⟨_,e,_⟩:=P;exact Ny e
  refine AC L P λh' K T S Q W C=>Qs K ?_;exact⟨s1.heap.objs.size+4,_,_,_,Z,rfl,I1.kept (t':=s1.toks) C,Ci (zipApart_new a1 a2) (λH=>H a=ar (.tup va)/\H b=ar (.tup vb)) (λ_=>.rfl),⟨K,T,⟨_,_,S⟩,Q,W⟩,λc Y=>I1.fpOk (fresh c Y) (I1.hok.fresh (fresh c Y)),q⟩
theorem Rd.lst_inj(h:Rd H a (.lst xs))(h':Rd H a (.lst ys)):xs=ys:=by rcases h with h|⟨o,h⟩<;>rcases h' with h'|⟨o',h'⟩<;>(rw[h]at h';cases h'<;>rfl)
def zL:D->M (List D×Option (Nat×List D))
 | .lst k=>do let xs<-getL k;aw (xs,ar (k,xs))
 | .fz xs=>aw (xs,none)
 |_=>M.fail
def IQ:Option (Nat×List D)->Option (Nat×List D)->Chk
 |some (k,xs),ar (j,ys)=>.two k j xs ys
 |some (k,xs),none=>.two k k xs xs
 |none,ar (j,ys)=>.two j j ys ys
 |none,none=>.none
def Cy:List D->M Iter
 |[.tup xs,.tup ys]=>aw ⟨(xs.zip ys).map λp=>.tup [p.1,p.2],.none⟩
 |[a,b]=>do let x<-zL a;let y<-zL b;aw ⟨(x.1.zip y.1).map λp=>.tup [p.1,p.2],IQ x.2 y.2⟩
 |_=>M.fail
structure ZOk(K:dt)(x:List D×Option (Nat×List D))(a:b_)(ι:List b_)(H:Hp):Prop where
 ok:∀ ι2 H2 S2,ExtN ι H ι2 H2->Rep K ι2 H2 S2->(∀k xs,x.2=ar (k,xs)->S2[k]? =ar xs)->∃va,Rd H2 a (.lst va)/\RelDs K ι2 H2 x.1 va
theorem Cz{K:dt}{E:XD}{ι:List b_}{S:aB}{H:Hp}{d:D}{v:V}{P:Type}{f:List D×Option (Nat×List D)->M P}{Q:P->List b_->aB->Hp->Prop}(Z:Rep K ι H S)(r:RelD K ι H d v)(c:cont K E (zL d>>=f) ι S H Q):
  ∃a x U,v= .ref a/\Rd H a (.lst U)/\ZOk K x a ι H/\cont K E (f x) ι S H Q:=by
 cases d with
 | lst k=>
  obtain⟨a,rfl,Y⟩:=r.lst_inv;have L:cont K E (getL k>>=λxs=>aw (xs,ar (k,xs))>>=f) ι S H Q:=by rw[<-gx];exact c
  obtain⟨xs,vs,F,I,R,T⟩:=br L Z Y;rw[aj]at T;refine⟨a,(xs,ar (k,xs)),vs,rfl,.inl I,⟨λX N J e rep2 ok=>?_⟩,T⟩;obtain⟨U,G,O⟩:=rep2.get k a xs (e.at Y) (ok k xs rfl);exact⟨U,.inl G,O⟩
 |fz xs=>
  obtain⟨a,o,vs,rfl,Y,R⟩:=r.fz_inv;refine⟨a,(xs,none),vs,rfl,.inr ⟨o,Y⟩,⟨λX N J e rep2 ok=>?_⟩,ah (ai c) .refl Z⟩;exact⟨vs,.inr ⟨o,(e.oth _ _ Y (Z.notIn Y (by intro _ z;cases z)) (by intro _ z;cases z) (by intro _ z;cases z)).1⟩,R.laterN Z e⟩
 |_=>exact(ag (ai c)).elim
theorem Ft(h:Iter.okS ⟨items,IQ x y⟩ S):(∀k xs,x=ar (k,xs)->S[k]? =ar xs)/\∀k xs,y=ar (k,xs)->S[k]? =ar xs:=by
 match x,y,h with
 |some (k,xs),ar (j,ys),h=>exact⟨λ_ _ e=>(by cases e;exact h.1),λ_ _ e=>(by cases e;exact h.2)⟩
 |some (k,xs),none,h=>exact⟨λ_ _ e=>(by cases e;exact h.1),λ_ _ e=>(by cases e)⟩
 |none,ar (j,ys),h=>exact⟨λ_ _ e=>(by cases e),λ_ _ e=>(by cases e;exact h.1)⟩
 |none,none,h=>exact⟨λ_ _ e=>(by cases e),λ_ _ e=>(by cases e)⟩
theorem vM{K:dt}{ι:List b_}{H:Hp}{a b:b_}{x y:List D×Option (Nat×List D)}(C:ZOk K x a ι H)(B:ZOk K y b ι H):
  il K ⟨(x.1.zip y.1).map λp=>.tup [p.1,p.2],IQ x.2 y.2⟩ (Fq a b) ι H:=by
 intro Z S N e rep2 ok i;obtain⟨R,P⟩:=Ft ok;obtain⟨J,X,U⟩:=C.ok Z S N e rep2 R;obtain⟨O,Y,T⟩:=B.ok Z S N e rep2 P;have A:=U.length;have q:=T.length;refine⟨λd hd=>?_,λhlen=>?_⟩
 ·obtain⟨s,w,L,I,rfl⟩:=zip_get hd;have o:=(Nx.mp L).1;have t:=(Nx.mp I).1;refine⟨⟨J,O,X,Y,by omega,by omega⟩,?_⟩;rintro v H3 ⟨va',vb',p,u,F,gA,gB,hp,g1,g2,rfl,rfl⟩;cases Rd.lst_inj X gA;cases Rd.lst_inj Y gB;obtain⟨v1,e1,E⟩:=U.get' L;obtain⟨v2,e2,G⟩:=T.get' I;obtain rfl:v1=u:=NW (e1.symm.trans g1);obtain rfl:v2=F:=NW (e2.symm.trans g2);have Q:Ext Z S Z (upd S p (.tup [v1,v2])):=fM hp;exact⟨Q,gX rep2 hp,.tup bg (.cons (E.later rep2 Q) (.cons (G.later rep2 Q) .nil))⟩
 ·have r:min x.1.length y.1.length<=i:=by simpa using hlen
  refine⟨J,O,X,Y,?_⟩;rcases Nat.le_total x.1.length y.1.length with z|z
  ·exact .inl (by omega)
  ·exact .inr (by omega)
theorem yO{X:Cx}{x1}(A:X.mg "zip"=none)(k:SE X E a m)(t:SE X E b n)(q:Gl X "zip":=by rfl)
  (hs:dV [a,b] X.env=[(dr,g6 a X.env),(dr,g6 b X.env)]:=by rfl) (W:dV [b] X.env=[(dr,g6 b X.env)]:=by rfl):
  SI X E (.Tuple elts x1 tp) (.Call (.Name "zip" p) [a,b] [] pos) (λρ=>do let ds<-(do let x<-m ρ;let xs<-(do let y<-n ρ;let ys<-aw [];aw (y::ys));aw (x::xs));Cy ds):=by
 intro pins s σ H R I h;have C:PI X (.Tuple elts x1 tp) (.Call (.Name "zip" p) [a,b] [] pos) (λσ H R=>Mv X.K E (ae m (ae n aq)) σ H λxs U=>(∃a b Y Z,xs=[.ref a,.ref b]/\Rd U a (.lst Y)/\Rd U b (.lst Z)/\R (Fq a b) U)\/
   (∃a b Y Z,xs=[.ref a,.ref b]/\U a=ar (.tup Y)/\U b=ar (.tup Z)/\
   R ⟨λi H=>(Ba Y Z).go i H/\(H a=ar (.tup Y)/\H b=ar (.tup Z)),(Ba Y Z).yld,λi H=>(Ba Y Z).stop i H/\(H a=ar (.tup Y)/\H b=ar (.tup Z))⟩ U)):=
  Fs q A (af k (af t ao (by rw[W];rfl)) (by rw[hs,W])) (by rw[hs,W]) (by rw[W];rfl)
 refine C pins s σ H R I ?_;obtain⟨ι,S,ρ,rep,re,c⟩:=h;refine⟨ι,S,ρ,rep,re,ak (ai c) λds v S1 U e1 rep1 T vs r=>?_⟩;unfold Cy at T;split at T
 ·next xs ys=>
  obtain⟨v1,ws,rfl,F,O⟩:=r.cons_inv;obtain⟨v2,L,rfl,N,J⟩:=O.cons_inv;cases J.nil_inv;obtain⟨G,Y,rfl,P,j⟩:=F.tup_inv;obtain⟨B,Z,rfl,Q,w⟩:=N.tup_inv;exact .inr ⟨G,B,Y,Z,rfl,P,Q,ah T .refl rep1 _ (xv rep1 P Q j w)⟩
 ·next a b _=>
  obtain⟨v1,ws,rfl,F,O⟩:=r.cons_inv;obtain⟨v2,L,rfl,N,J⟩:=O.cons_inv;cases J.nil_inv;obtain⟨G,x,Y,rfl,P,o,z⟩:=Cz rep1 F T;obtain⟨B,y,Z,rfl,Q,l,u⟩:=Cz rep1 N z;exact .inl ⟨G,B,Y,Z,rfl,P,Q,ah u .refl rep1 _ (vM o l)⟩
 ·exact(ag T).elim
abbrev vN(m n:TM):aI->M Iter:=λρ=>do let ds<-ae m (ae n aq) ρ;Cy ds
end S4
namespace S3
open PySem PySem.Spec PyProof.Rows L2 S4
def mZ(f:Expr->Option D):List Expr->Option (List D)
 |[]=>ar []
 |e::es=>match f e,mZ f es with
  |some d,ar ds=>ar (d::ds)
  |_,_=>none
def litE:Nat->Expr->Option D
 |_,.Constant .none _ _=>ar .non
 |_,.Constant (.bool b) _ _=>ar (.bl b)
 |_,.Constant (.int i) _ _=>ar (.int i)
 |_,.Constant (.str x) _ _=>ar (.str x)
 |_,.UnaryOp .USub (.Constant (.int i) _ _) _=>ar (.int (-i))
 |n+1,.Tuple es _ _=>match mZ (litE n) es with
  |some ds=>if ds.length<=100 then ar (.tup ds)else none
  |none=>none
 |_,_=>none
section
variable {X:Cx}{E:XD}
theorem SE.mono{m Z:TM}(h:SE X E e m)(k:∀ ρ S r,Z ρ S=ar r->m ρ S=ar r):SE X E e Z:=PE.imp h λσ H Q q=>by obtain⟨ι,S,ρ,rep,re,r,Y,e,c⟩:=q;exact⟨ι,S,ρ,rep,re,r,Y,k ρ S _ e,c⟩
theorem CA(h:litE n e=ar d)(es:List Expr)(env:Env):dV (e::es) env=(dr,g6 e env)::dV es env:=by
 cases e with
 |Constant c j p=>exact aD
 |UnaryOp o a p=>exact xx
 |Tuple l k p=>exact pW
 |_=>cases n<;>cases h
theorem yP(Z:∀e d,litE n e=ar d->SE X E e (mK d)):∀{es:List Expr} {ds:List D},mZ (litE n) es=ar ds->SA X E es (λ_=>aw ds)
 |[],ds,h=>by cases h;exact ao
 | e::es,ds,h=>by
  unfold mZ at h;cases q:litE n e with
  |none=>rw[q]at h;cases h
  | some d=>
   rw[q]at h;cases q2:mZ (litE n) es with
   |none=>rw[q2]at h;cases h
   |some ds'=>
    rw[q2]at h;cases h;exact af (Z e d q) (yP Z q2) (CA q _ _)
theorem IR:∀(n:Nat) (e:Expr) (d:D),litE n e=ar d->SE X E e (mK d):=by
 intro n
 induction n with
 |zero=>
  intro e d h;unfold litE at h;split at h
  ·cases h;exact fh
  ·cases h;exact fA
  ·cases h;exact au
  ·cases h;exact bA
  ·cases h;exact pX
  ·next h'=>exact absurd h' (by omega)
  ·cases h
 | succ n ih=>
  intro e d h;unfold litE at h;split at h
  ·cases h;exact fh
  ·cases h;exact fA
  ·cases h;exact au
  ·cases h;exact bA
  ·cases h;exact pX
  ·next m es k p hm=>
   cases hm;cases q:mZ (litE n) es with
   |none=>rw[q]at h;cases h
   | some ds=>
    rw[q]at h;simp only at h;split at h
    ·next hl=>
     cases h;refine(i9 (yP ih q)).mono λρ S r Z=>?_;have e:(do let ds'<-(aw ds:M (List D));cW ds')=(aw (.tup ds):M D):=by show cW ds=_;unfold cW;rw[if_pos (by unfold lim;omega)]
     rw[e];exact Z
    ·cases h
  ·cases h
theorem CB(n:Nat)(h:litE n e=ar d):SE X E e (mK d):=IR n e d h
end
def aQ(m:TM)(ms:Eo):Eo:=ae m ms
section
variable {X:Cx}{E:XD}
theorem ba(Y:SE X E e m)(Z:SA X E es ms)(hs:dV (e::es) X.env=(dr,g6 e X.env)::dV es X.env):SA X E (e::es) (aQ m ms):=af Y Z hs
theorem jc{l p t n}:l_ (.List l p) t n env=aw false:=rfl
theorem vO{l k p t n}:l_ (.Tuple l k p) t n env=aw false:=rfl
theorem dW{a o b p t n}:l_ (.BinOp a o b p) t n env=aw false:=rfl
theorem eh{f l k p t n}:l_ (.Call f l k p) t n env=aw false:=rfl
theorem gp{a b p t n}:l_ (.Subscript a b p) t n env=aw false:=rfl
theorem nL{a b p t n}:l_ (.Constant a b p) t n env=aw false:=rfl
end
end S3
namespace S7
open PySem PySem.Spec PyProof.Rows L2 S3
theorem mq{a b p}:dV (.Attribute a b p::es) env=(dr,g6 (.Attribute a b p) env)::dV es env:=rfl
abbrev IS(m:TM):TM:=λρ=>oa (m ρ)
abbrev KW:TM:=λ_=>M.fail
abbrev de(m:TM)(y:Str):TM:=λρ=>do let x<-m ρ;vG (λn=>cD n y) x
abbrev CC(m:TM):TM:=λρ=>do let x<-m ρ;vG (λ_=>c_) x
abbrev uf(x:Str)(ms:aI->M (List D)):du:=λρ=>do let ds<-ms ρ;if ds.length<=lim then M.raise (.exc x [])else M.fail
end S7
namespace S3
open PySem PySem.Spec PyProof.Rows L2
mutual
def fy(n:Nat):D->Bool
 | .lst k=>decide (k<n)
 | .tup ds=>cn n ds
 | .ro ds=>cn n ds
 | .fz ds=>cn n ds
 | .fn _ _ _ ds _=>cn n ds
 | .exc _ ds=>cn n ds
 | .non=>c_
 | .bl _=>c_
 | .int _=>c_
 | .str _=>c_
 | .emp=>c_
def cn(n:Nat):List D->Bool
 |[]=>c_
 |d::ds=>fy n d && cn n ds
end
mutual
def ke(n:Nat)(g:Nat->Option (List D)):D->Option D
 | .lst k=>if k<n then ar (.lst k)else (g k).map .fz
 | .tup ds=>(ju n g ds).map .tup
 | .ro ds=>(ju n g ds).map .ro
 | .fz ds=>(ju n g ds).map .fz
 | .fn a c q ds vs=>(ju n g ds).map λes=>.fn a c q es vs
 | .exc x ds=>(ju n g ds).map λes=>.exc x es
 | .non=>ar .non
 | .bl b=>ar (.bl b)
 | .int i=>ar (.int i)
 | .str x=>ar (.str x)
 | .emp=>ar .emp
def ju(n:Nat)(g:Nat->Option (List D)):List D->Option (List D)
 |[]=>ar []
 |d::ds=>match ke n g d,ju n g ds with
  |some u,ar us=>ar (u::us)
  |_,_=>none
end
def Ep(S:aB)(n:Nat):Nat->Nat->Option (List D)
 |0,_=>none
 |f+1,k=>(S[k]?).bind λxs=>ju n (Ep S n f) xs
def nM(S S':aB):Prop:=∀k xs,k<S.length->S'[k]? =ar xs->S[k]? =ar xs\/cn S.length xs=c_
open Classical in
def iH(m:M D):M D:=λS=>match m S with
 | some (.ok d,S')=>if S'.length<=S.length then ar (.ok d,S')else
   if nM S S' then (match ke S.length (Ep S' S.length 60) d with
    |some u=>ar (.ok u,S'.take S.length)
    |none=>none)else none
 |r=>r
abbrev aH(m:TM):TM:=λρ=>iH (m ρ)
section
variable {K:dt}{ι ι':List b_}{H H':Hp}{S S':aB}
mutual
theorem RelD.cl:∀{d:D} {v:V},RelD K ι H d v->fy ι.length d=c_
 |_,_,.non=>rfl
 |_,_,.bl b=>rfl
 |_,_,.int i=>rfl
 |_,_,.str x=>rfl
 |_,_,.tup h hs=>by unfold fy;exact RelDs.cl hs
 |_,_,.lst h=>by unfold fy;exact NJ (Nx.mp h).1
 |_,_,.ro h hs=>by unfold fy;exact RelDs.cl hs
 |_,_,.emp h=>rfl
 |_,_,.fn h hs=>by unfold fy;exact RelDs.cl hs
 |_,_,.exc n h=>rfl
 |_,_,.excF n h h2 hn hs=>by unfold fy;exact RelDs.cl hs
 |_,_,.fz h hs=>by unfold fy;exact RelDs.cl hs
theorem RelDs.cl:∀{ds:List D} {vs:List V},RelDs K ι H ds vs->cn ι.length ds=c_
 |_,_,.nil=>rfl
 |_,_,.cons h hs=>by unfold cn;rw[RelD.cl h,RelDs.cl hs];rfl
end
def nN(P:List b_)(os:b_->Obj)(H:Hp):Hp:=λb=>match H b with
 |some (.lst vs)=>if b∈P then ar (.frz (os b) (.lst vs))else ar (.lst vs)
 |x=>x
theorem CD{P:List b_}{os:b_->Obj}{b:b_}(h:H b=none):nN P os H b=none:=by unfold nN;rw[h]
theorem bQ{P:List b_}{os:b_->Obj}{b:b_}{o:HO}(h:H b=ar o)(Z:∀vs,o≠ .lst vs):nN P os H b=ar o:=by
 unfold nN;rw[h];cases o with
 |lst vs=>exact absurd rfl (Z vs)
 |_=>rfl
theorem yQ{P:List b_}{os:b_->Obj}{b:b_}(h:b∉P):nN P os H b=H b:=by
 unfold nN;split
 ·next q=>rw[if_neg h,q]
 ·rfl
theorem IT{os:b_->Obj}(h:b∈P)(e:H b=ar (.lst vs)):nN P os H b=ar (.frz (os b) (.lst vs)):=by unfold nN;rw[e];exact if_pos h
theorem vP(Y:ι.Nodup)(h:ι[k]? =ar a):a∈ι.drop n↔n<=k:=by
 constructor
 ·intro hm;obtain⟨j,Z⟩:=Pu.mp hm;rw[QR]at Z;have:=pe Y h Z;omega
 ·intro X;refine Pu.mpr ⟨k - n,?_⟩;rw[QR,show n+(k - n)=k by omega];exact h
mutual
theorem RelD.down{n:Nat}{os:b_->Obj}:∀{d:D} {v:V},RelD K ι H d v->fy n d=c_->RelD K (ι.take n) (nN (ι.drop n) os H) d v
 |_,_,.non,_=>.non
 |_,_,.bl b,_=>.bl b
 |_,_,.int i,_=>.int i
 |_,_,.str x,_=>.str x
 |_,_,.tup h hs,c=>.tup (bQ h (by intro _ z;cases z)) (RelDs.down hs (by unfold fy at c;exact c))
 |_,_,.lst h,c=>.lst (by unfold fy at c;rw[P2,if_pos (OC c)];exact h)
 |_,_,.ro h hs,c=>.ro (h.imp (λ⟨o,h⟩=>⟨o,bQ h (by intro _ z;cases z)⟩) λz=>z) (RelDs.down hs (by unfold fy at c;exact c))
 |_,_,.emp h,_=>.emp (bQ h (by intro _ z;cases z))
 |_,_,.fn h hs,c=>.fn (bQ h (by intro _ z;cases z)) (RelDs.down hs (by unfold fy at c;exact c))
 |_,_,.exc n h,_=>.exc n (bQ h (by intro _ z;cases z))
 |_,_,.excF n h h2 hn hs,c=>.excF n (bQ h (by intro _ z;cases z)) (bQ h2 (by intro _ z;cases z)) hn (RelDs.down hs (by unfold fy at c;exact c))
 |_,_,.fz h hs,c=>.fz (bQ h (by intro _ z;cases z)) (RelDs.down hs (by unfold fy at c;exact c))
theorem RelDs.down{n:Nat}{os:b_->Obj}:∀{ds:List D} {vs:List V},RelDs K ι H ds vs->cn n ds=c_->RelDs K (ι.take n) (nN (ι.drop n) os H) ds vs
 |_,_,.nil,_=>.nil
 |_,_,.cons h hs,c=>by
  unfold cn at c;rw[OA]at c;exact .cons (RelD.down h c.1) (RelDs.down hs c.2)
end
theorem jd{Z Y:Type}{f:Z->Y}{o:Option Z}{b:Y}(h:o.map f=ar b):∃a,o=ar a/\f a=b:=by
 cases o with
 |none=>cases h
 |some a=>exact⟨a,rfl,NW h⟩
theorem CF(h:ju n g (d::ds)=ar us):∃u us',us=u::us'/\ke n g d=ar u/\ju n g ds=ar us':=by
 unfold ju at h;split at h
 ·next u us' e1 e2=>cases h;exact⟨u,us',rfl,e1,e2⟩
 ·cases h
mutual
theorem xD{n:Nat}{os:b_->Obj}{g:Nat->Option (List D)}(Z:∀k us a,n<=k->g k=ar us->ι[k]? =ar a->∃vs,H a=ar (.lst vs)/\RelDs K (ι.take n) (nN (ι.drop n) os H) us vs)(Y:ι.Nodup):
  ∀{d:D} {v:V},RelD K ι H d v->∀{u:D},ke n g d=ar u->RelD K (ι.take n) (nN (ι.drop n) os H) u v
 |_,_,.non,u,e=>by unfold ke at e;cases e;exact .non
 |_,_,.bl b,u,e=>by unfold ke at e;cases e;exact .bl b
 |_,_,.int i,u,e=>by unfold ke at e;cases e;exact .int i
 |_,_,.str x,u,e=>by unfold ke at e;cases e;exact .str x
 |_,_,.tup h hs,u,e=>by
  unfold ke at e;obtain⟨es,e1,rfl⟩:=jd e;exact .tup (bQ h (by intro _ z;cases z)) (je Z Y hs e1)
 | _,_,@RelD.lst _ _ _ a k h,u,e=>by
  unfold ke at e;by_cases hk:k<n
  ·rw[if_pos hk]at e;cases e;exact .lst (by rw[P2,if_pos hk];exact h)
  ·rw[if_neg hk]at e;obtain⟨us,e1,rfl⟩:=jd e;obtain⟨vs,U,X⟩:=Z k us a (by omega) e1 h;exact .fz (IT ((vP Y h).mpr (by omega)) U) X
 |_,_,.ro h hs,u,e=>by
  unfold ke at e;obtain⟨es,e1,rfl⟩:=jd e;exact .ro (h.imp (λ⟨o,h⟩=>⟨o,bQ h (by intro _ z;cases z)⟩) λz=>z) (je Z Y hs e1)
 |_,_,.emp h,u,e=>by unfold ke at e;cases e;exact .emp (bQ h (by intro _ z;cases z))
 |_,_,.fn h hs,u,e=>by
  unfold ke at e;obtain⟨es,e1,rfl⟩:=jd e;exact .fn (bQ h (by intro _ z;cases z)) (je Z Y hs e1)
 |_,_,.exc x h,u,e=>by
  unfold ke at e;obtain⟨es,e1,rfl⟩:=jd e;unfold ju at e1;cases e1;exact .exc x (bQ h (by intro _ z;cases z))
 |_,_,.excF x h X hn hs,u,e=>by
  unfold ke at e;obtain⟨es,e1,rfl⟩:=jd e;exact .excF x (bQ h (by intro _ z;cases z)) (bQ X (by intro _ z;cases z)) hn (je Z Y hs e1)
 |_,_,.fz h hs,u,e=>by
  unfold ke at e;obtain⟨es,e1,rfl⟩:=jd e;exact .fz (bQ h (by intro _ z;cases z)) (je Z Y hs e1)
theorem je{n:Nat}{os:b_->Obj}{g:Nat->Option (List D)}(Z:∀k us a,n<=k->g k=ar us->ι[k]? =ar a->∃vs,H a=ar (.lst vs)/\RelDs K (ι.take n) (nN (ι.drop n) os H) us vs)(Y:ι.Nodup):
  ∀{ds:List D} {vs:List V},RelDs K ι H ds vs->∀{us:List D},ju n g ds=ar us->RelDs K (ι.take n) (nN (ι.drop n) os H) us vs
 |_,_,.nil,us,e=>by unfold ju at e;cases e;exact .nil
 |_,_,.cons h hs,us,e=>by
  obtain⟨u,X,rfl,e1,e2⟩:=CF e;exact .cons (xD Z Y h e1) (je Z Y hs e2)
end
theorem yR(Z:Rep K ι H S){n:Nat}{os:b_->Obj}:∀f k us a,n<=k->Ep S n f k=ar us->ι[k]? =ar a->∃vs,H a=ar (.lst vs)/\RelDs K (ι.take n) (nN (ι.drop n) os H) us vs:=by
 intro f
 induction f with
 |zero=>intro k us a _ e;cases e
 | succ f ih=>
  intro k us a T e X;unfold Ep at e;cases z:S[k]? with
  |none=>rw[z]at e;cases e
  |some xs=>
   rw[z]at e;obtain⟨vs,Y,U⟩:=Z.get k a xs X z;exact⟨vs,Y,je ih Z.nd U e⟩
theorem vQ(Y:Rep K ι H S)(x:Ext ι H ι' H')(Z:Rep K ι' H' S')(N:nM S S')(os:b_->Obj):
  Ext ι H ι (nN (ι'.drop ι.length) os H')/\Rep K ι (nN (ι'.drop ι.length) os H') (S'.take ι.length):=by
 obtain⟨more,rfl⟩:=id x.ids;have Q:(ι++more).take ι.length=ι:=by simp
 refine⟨⟨⟨[],by simp⟩,λa o h n t=>?_⟩,⟨Y.nd,?_,λk a xs e1 e2=>?_,Z.tab.mono λa o h n=>bQ h n⟩⟩
 ·obtain⟨U,R⟩:=x.oth a o h n t;rw[yQ (λz=>R (Ob z))];exact⟨U,n⟩
 ·have:=Z.len;rw[N5, <-this,Nr];omega
 ·have T:k<ι.length:=(Nx.mp e1).1;rw[P2,if_pos T]at e2;have X:(ι++more)[k]? =ar a:=by rw[N4 T];exact e1
  obtain⟨vs,U,R⟩:=Z.get k a xs X e2;refine⟨vs,?_,?_⟩
  ·rw[yQ (λz=>by have:=(vP Z.nd X).mp z;omega)];exact U
  ·have P:cn ι.length xs=true:=by
    rcases N k xs (by rw[<-Y.len];exact T) e2 with z|z
    ·obtain⟨_,_,O⟩:=Y.get k a xs e1 z;exact O.cl
    ·rw[Y.len];exact z
   have:=RelDs.down (n:=ι.length) (os:=os) R P;rw[Q]at this;exact this
end
section
variable {X:Cx}{E:XD}{e:Expr}{m:TM}{pins:List (b_×Obj)}{σ:L2.St}{H:Hp}{s:a_}
theorem Inv.fz(I:L2.Inv X pins σ H s)(P:List b_):∃os,L2.Inv X pins σ (nN P os H) s:=by
 refine⟨λa=>(s.heap.get? a).getD {cls:=.none,data:=.fields #[]},?_⟩;have Z:Un X.fs [] H (nN P (λa=>(s.heap.get? a).getD {cls:=.none,data:=.fields #[]}) H) s.heap s.heap:=
  ⟨λb o q _ _ _=>q,λb o q _ _ _=>⟨o.slots,q⟩,λb o _ n _=>CD n,λb o q _=>⟨o,q⟩,λb xs q=>bQ q (by intro _ z;cases z),λb o u q=>bQ q (by intro _ z;cases z),λb Y q=>⟨#[],by rw[bQ q (by intro _ z;cases z)];simp⟩⟩
 refine I.un (t':=s.toks) Z λb o q=>?_;have st:∀u,H b=ar u->bh X.prog X.w (nN P (λa=>(s.heap.get? a).getD {cls:=.none,data:=.fields #[]}) H) s.heap b u:=λu Z=>
  (I.hok b u Z).stay (λ_ _ _ z=>z) (λc z=>bQ z (by intro _ z;cases z)) λc xs z=>bQ z (by intro _ z;cases z)
 unfold nN at q;split at q
 ·next vs hb=>
  split at q
  ·cases q;obtain⟨z,its,n,r,e⟩:=(show bh X.prog X.w H s.heap b (.lst vs)from I.hok b _ hb);exact⟨by dsimp only;rw[e];rfl,z,its,n,r,e⟩
  ·cases q;exact st _ hb
 ·exact st _ q
theorem aF(h:SE X E e m):SE X E e (aH m):=by
 intro pins s σ H Q I N;obtain⟨ι,S,ρ,rep,re,r,L,F,k⟩:=N;have Z:iH (m ρ) S=ar (r,L):=F;unfold iH at Z;cases q:m ρ S with
 |none=>rw[q]at Z;cases Z
 | some p=>
  obtain⟨J,R⟩:=p;rw[q]at Z;cases J with
  |ex x=>
   cases Z;exact h pins s σ H Q I ⟨ι,S,ρ,rep,re,.ex x,_,q,k⟩
  | ok d=>
   dsimp only at Z;by_cases hl:R.length<=S.length
   ·rw[if_pos hl]at Z;cases Z;exact h pins s σ H Q I ⟨ι,S,ρ,rep,re,.ok d,_,q,k⟩
   ·rw [if_neg hl]at Z;by_cases hk:nM S R
    ·rw [if_pos hk]at Z;cases z:ke S.length (Ep R S.length 60) d with
     |none=>rw[z]at Z;cases Z
     | some u=>
      rw[z]at Z;cases Z;refine dq (h pins s σ H (λv T=>∃P:List b_,∀os,Q v (nN P os T)) I ⟨ι,S,ρ,rep,re,.ok d,R,q,λW T x Y v O=>?_⟩) λuv s' ⟨v,T,I',O,P,hq⟩=>?_
      ·refine⟨W.drop ι.length,λos=>?_⟩;obtain⟨C,rep2⟩:=vQ rep x Y hk os;have U:Rep X.K ι (nN (W.drop ι.length) os T) (R.take S.length):=by rw[<-rep.len];exact rep2
       have N:W.take ι.length=ι:=by obtain⟨more,rfl⟩:=x.ids;simp
       have rel:RelD X.K ι (nN (W.drop ι.length) os T) u v:=by have:=xD (n:=ι.length) (os:=os) (λk us a=>by rw[rep.len];exact yR Y 60 k us a) Y.nd O (by rw[rep.len];exact z);rw[N]at this;exact this
       exact k ι _ C U v rel
      ·obtain⟨os,G⟩:=Inv.fz I' P;exact⟨v,_,G,O,hq os⟩
    ·rw[if_neg hk]at Z;cases Z
end
end S3
namespace S4
open PySem PySem.Spec PyProof.Rows L2 S3
section
variable {prog:eb}{w:er}{A:g_}{E:aC->a_->Prop}{s:a_}
end
end S4
namespace S3
open PySem PySem.Spec PyProof.Rows L2
section
variable {X:Cx}{E:XD}{a b e c o tg:Expr}{m n l:TM}{pos p2:Pos}{es:List Expr}{ms:aI->M (List D)}
end
end S3
section
namespace S3
open PySem PySem.Spec PyProof.Rows L2
section
variable {prog:eb}{w:er}{A:g_}{R:T4->a_->Prop}{s:a_}
end
section
variable {X:Cx}{pins:List (b_×Obj)}{σ:St}{H:Hp}{s:a_}
end
section
variable {X:Cx}{scope:Scope}{Nc:List Str}{js:List (Option Nat)}{pins:List (b_×Obj)}{σ:St}{H:Hp}{s:a_}
end
end S3
end
namespace S3
open PySem PySem.Spec PyProof.Rows L2
section
variable {K:dt}{p:b_}{Q:D->List b_->aB->Hp->Prop}
structure MkL(K:dt)(p:b_)(ι:List b_)(S:aB)(ρ:aI)(σ:St)(H:Hp)(xs:List D):Prop where
 rep:Rep K ι (gc H p) S
 re:RelE K ι (gc H p) ρ σ
 lst:∃vs,H p=ar (.lst vs)/\RelDs K ι (gc H p) xs vs
 out:p∉ι
section
variable {X:Cx}{scope:Scope}{Nc:List Str}{js:List (Option Nat)}{elt tg iter tg2 iter2:Expr}{ifs ifs2:List Expr}{pos:Pos}{mi mi2:aI->M Iter}{g g2:nE}{t t2:aI->M Bool}{m:TM}
end
end
end S3
namespace S7
open PySem PySem.Spec PyProof.Rows L2 S3
section
open Sem (wp)
section
variable {prog:eb}{w:er}{A:g_}{E:aC->a_->Prop}{h:fg}{g:Array RT}{d:Drawn}{t:Nat}{os:R1}
variable {nm q:Str}{C N:b_}{bs bm bmB:List aC}{hdct:Bool}{sn:List Str}{sub:List aC}{ab:Bool}{col:Option Bool}{dd:Option b_}{k0 k1 k2 k3 k5:Option aC}{B Bn newId nid initId inN:String}{bmN:List aC}
end
section
variable {M:SK}{A:g_}{E:aC->a_->Prop}{env:Env}
variable {nm q:Str}{C N:b_}{bs bm:List aC}{hdct:Bool}{sn:List Str}{sub:List aC}{ab:Bool}{col:Option Bool}{dd:Option b_}{k0 k1 k2 k3 k5:Option aC}{newId:String}
end
section
variable {prog:eb}{w:er}{A:g_}{E:aC->a_->Prop}{s:a_}{env:Env}
variable {nm q:Str}{C N:b_}{bs bm bmB:List aC}{hdct:Bool}{sn:List Str}{sub:List aC}{ab:Bool}{col:Option Bool}{dd:Option b_}{k0 k1 k2 k3 k5:Option aC}{B Bn newId nid initId inN:String}{bmN:List aC}
end
end
end S7
namespace S7
open PySem PySem.Spec PySem.W PyProof.Rows
section
open Builtin Builtin.ObjectAttr
def GO:List aC->Bool
 | .ref _:: .ref _::r=>r==[.type "ValueError",.type "Exception",.type "BaseException",.type "object"]
 |_=>dr
structure ExcS(K:Uj)(C:b_):Prop where
 sa:H_ K (.ref C) "__setattr__"=ar (ar (.builtin "object.__setattr__"))
 ob:Tr K C (.type "object")=ar c_
 cd:∃cd,Ui K C=ar cd/\cd.hasDict=c_/\GO cd.mro=c_
section
variable {prog:eb}{w:er}{A:g_}{E:aC->a_->Prop}{s:a_}{K:Uj}{x C:b_}{o:Obj}{vs:Array aC}{mA:Str->Option aC}{name:Str}{v:aC}{R:T4->a_->Prop}
end
end
end S7
namespace S7
open PySem PySem.Spec PyProof.Rows L2 S3
def KY(C a t:b_)(od:Option b_):fg->Prop:=λh=>h.get? a=ar {cls:=.ref C,dict:=od,data:=.fields #[.ref t,.none,.none,.none,.bool dr,.none]}
def MF(dx:b_)(fs:List (Str×V)):fg->Prop:=λh=>∃mA,h.Ns1 dx mA/\(∀f,uT (fs.lookup f) (mA f))/\PySem.Within mA (fs.map (·.1))
section
variable {X:Cx}{pins:List (b_×Obj)}{σ:L2.St}{H:Hp}{s:a_}{h':fg}{t':Nat}
end
section
variable {X:Cx}{o value:Expr}{ta tv:TE}{f:Str}{pos pos':Pos}
end
end S7
section
namespace S7
open PySem PySem.Spec PyProof.Rows L2 S3
def Fu(K:dt)(C f:b_):Bool:=match K.lookup C with
 |some ⟨.type "type",_,.cls cd,sl⟩=>(match cd.mro,sl.toList with
  | .ref C'::bm,[_,_,_,_,ar (.builtin n),_]=>C'==C && n=="ValueError.__new__" && !cd.hasDel && W.tailIn K KP bm && W.nsOkIn K cd.ns && v_ K cd.ns "__init__"==ar (ar (.ref f)) && cd.hasDict && GO cd.mro
  |_,_=>dr) && (RI K (.ref C) "__setattr__"==ar (ar (.builtin "object.__setattr__"))) && (match K.lookup f with|some o=>o.cls== .type "function"|none=>dr)
 |_=>dr
def Ng(C:b_):Sp:=λvs H Q _=>∃e t v1 v2,vs=[.ref e,v1,v2]/\H e=ar (.ext (KY C e t none))/\∀dx,H dx=none->dx≠e->Q .non (upd (upd H dx (.ext (MF dx [("many",v1),("most",v2)]))) e (.ext (KY C e t (ar dx))))
section
variable {X:Cx}{Ek:XK}
end
end S7
end
namespace S7
open PySem PySem.Spec PyProof.Rows L2 S3
theorem CG{h:fg}{Y:Str->Option aC}(n:h.Ns1 dx Y)(e:h.get? dx=ar od)(X:Y f=ar v):Sk f od=ar (ar v):=by
 obtain⟨o,es,ep,e1,hd,_,_,hf⟩:=n;rw[e]at e1;cases e1;unfold Sk;rw[hd];have:=hf f;rw[X]at this;unfold nsFind findBy at this;rw[<-Array.find?_toList]at this;cases q:es.toList.find? (·.key.isStr f)with
 |none=>rw[q]at this;cases this
 |some en=>
  rw[q]at this;have Z:en.val=v:=NW this;rw[<-Z];dsimp only;rw[q]
section
variable {X:Cx}{E:XD}{pins:List (b_×Obj)}{σ:L2.St}{H:Hp}{s:a_}
theorem vR{a C U:b_}{P:List (Str×V)}{f:Str}{v:V}{b:Bool}{Q:aC->a_->Prop}{A:g_}{E:aC->a_->Prop}(c:ExcC X.K C)(S:∀cd,TB X.K C=ar cd->cd.hasDict=c_)(R:RI X.K (.ref C) f=ar none)(I:L2.Inv X pins σ H s)(t:H a=ar (.ext (nZ C a (ar U))))(y:H U=ar (.xd P))(r:P.lookup f=ar v)
  (B:W.copiedNames.contains f=dr) (h:∀u s',L2.Inv X pins σ H s'->RelV v u->Q u s'):d_ (eK X.prog X.w) A (Ub (.ref a) f b) Q E s:=by
 obtain⟨⟨L,vs,he,G,z,T⟩,_⟩:=I.hok a _ t;obtain⟨Y,N,x⟩:=(show ∃Y,s.heap.Ns1 U Y/\∀f,uT (P.lookup f) (Y f)from I.hok U _ y);obtain⟨od,es,ep,e1,_⟩:=id N;obtain⟨u,F,O⟩:=uT.some_of (v:=v) (o:=Y f) (by rw[<-r];exact x f);have J:F0 s.heap a L C (ar od):=⟨he,G,by unfold TX;rw[T],by rw[z];exact e1⟩;obtain⟨cd,Z⟩:=OH.mp c.cd;have hf:W.findObj X.K C (ar od) f=ar (.value u):=by unfold W.findObj;rw[Z,Ph,R,Ph];simp only[RE];unfold W.ownOf;rw[S cd Z,if_pos rfl];dsimp only;rw[CG N e1 F];rfl
 unfold Ub;refine Np (wpAny_mkText ?_);refine Ck (s:={s with toks:=s.toks+1}) I.kIn J c.ga c.gt c.be ?_;refine rE (s:={s with toks:=s.toks+1}) I.kIn J hf ?_;exact W.handed_on (z6 O) (h u _ (I.tok _) O)
def GP(second:Bool):D->M D
 | .exc n [a,b]=>if n∈aY then aw (if second then b else a)else M.fail
 |_=>M.fail
abbrev nO(second:Bool)(m:TM):TM:=λρ=>do let x<-m ρ;GP second x
theorem yS{e:Expr}{m:TM}{pos:Pos}{Z:Bool}{f:Str}(F:hZ X.K=c_)(P:∀n∈aY,∀C,v_ X.K f_ n=ar (ar (.ref C))->∀cd,TB X.K C=ar cd->cd.hasDict=c_)(B:SE X E e m)(R:f=if Z then "most" else "many")(x:j7 e f X.env (g6 e X.env)=g6 e X.env:=by rfl):
  SE X E (.Attribute e f pos) (nO Z m):=by
 intro pins s σ H Q I h;refine EG x (dq (B pins s σ H (λv Y=>∃ ι d,RelD X.K ι Y d v/\∃n a b va vb C dx p,d= .exc n [a,b]/\n∈aY/\v= .ref p/\v_ X.K f_ n=ar (ar (.ref C))/\Y p=ar (.ext (nZ C p (ar dx)))/\Y dx=ar (.xd [("many",va),("most",vb)])/\Q (if Z then vb else va) Y) I ?_) λu s1 ⟨v,Y,I1,rv,ι,d,rd,n,a,b,va,vb,C,dx,p,hd,hn,hp,hns,g1,g2,q⟩=>?_)
 ·obtain⟨ι,S,ρ,rep,re,c⟩:=h;refine⟨ι,S,ρ,rep,re,ak (ai c) λd O S1 Y e1 rep1 U v r=>⟨O,d,r,?_⟩⟩;unfold GP at U;split at U
  ·next n a b=>
   split at U
   ·next hn=>
    cases r with
    | excF hns h1 h2 h3 h4=>
     rename_i p C dx fs
     match fs,h3,h4,h2 with
     |[(f1,va),(f2,vb)],h3,h4,h2=>
      have e1:f1="many":=(Oc h3).1;have e2:f2="most":=(Oc (Oc h3).2).1;subst e1 e2;obtain⟨_,_,A,G,N⟩:=h4.cons_inv;obtain⟨t,o⟩:=Oc A;subst t o;obtain⟨_,_,J,w,_⟩:=N.cons_inv;obtain⟨y,_⟩:=Oc J;subst y;refine⟨n,a,b,va,vb,C,dx,p,rfl,hn,rfl,hns,h1,h2,?_⟩;have:=ah U .refl rep1;cases Z with
      |true=>exact this _ w
      |false=>exact this _ G
     |[],h3,_,_=>cases h3
     |[_],h3,_,_=>have:=Of nC h3;simp at this
     |_::_::_::_,h3,_,_=>have:=Of nC h3;simp at this
   ·exact(ag U).elim
  ·exact(ag U).elim
 ·subst hp;obtain rfl:u=ee p:=rv;obtain⟨l,T⟩:=mY F hn;have:=T.ns.symm.trans hns;cases this;refine vR (f:=f) (v:=if Z then vb else va) T.ck (P n hn C hns) (by rw[R];cases Z<;>first|exact T.ck.mf|exact T.ck.ms) I1 g1 g2 (by rw[R];cases Z<;>rfl) (by rw[R];cases Z<;>decide) λk s' z L=>⟨_,Y,z,L,q⟩
end
section
variable {X:Cx}{E:XD}{st:sb}{m:TM}{i:Nat}
theorem RelE.all{K:dt}{ι Z:List b_}{H U:Hp}{n:Nat}(Y:∀e v,fy n e=c_->RelD K ι H e v->RelD K Z U e v):
  ∀{ρ:aI} {σ:L2.St},RelE K ι H ρ σ->(∀e,ar e∈ρ->fy n e=c_)->RelE K Z U ρ σ
 |[],_,h,_=>by cases h;exact .nil
 |_::ρ,_,.cons h t,c=>.cons (λd' z=>by obtain⟨v,e1,e2⟩:=h _ z;exact⟨v,e1,Y _ v (c d' (by rw[z];exact NM ..)) e2⟩) (RelE.all Y t λe z=>c e (NF _ z))
theorem RelE.swap{K:dt}{ι Z:List b_}{H U:Hp}{n:Nat}{d u:D}(T:∀v,RelD K ι H d v->RelD K Z U u v)(Y:∀e v,fy n e=c_->RelD K ι H e v->RelD K Z U e v):
  ∀{ρ:aI} {i:Nat} {σ:L2.St},RelE K ι H (ρ.set i (ar d)) σ->(∀e,ar e∈ρ->fy n e=c_)->RelE K Z U (ρ.set i (ar u)) σ
 |[],_,_,h,_=>by cases h;exact .nil
 |_::ρ,0,_,.cons h t,c=>.cons (λd' z=>by cases z;obtain⟨v,e1,e2⟩:=h _ rfl;exact⟨v,e1,T v e2⟩) (RelE.all Y t λe z=>c e (NF _ z))
 |_::ρ,i+1,_,.cons h t,c=>.cons (λd' z=>by obtain⟨v,e1,e2⟩:=h _ z;exact⟨v,e1,Y _ v (c d' (by rw[z];exact NM ..)) e2⟩) (RelE.swap T Y (ρ:=ρ) (i:=i) t λe z=>c e (NF _ z))
theorem vS(h:SS X E st (bx i m)):SS X E st (bx i (aH m)):=by
 intro pins s σ H T I L;obtain⟨ι,S,ρ,rep,re,r,J,B,k⟩:=L;have Z:(iH (m ρ)>>=λd=>(aw (Out.nx (ρ.set i (ar d))):M Out)) S=ar (r,J):=B;have F:∀(c:M D),(c>>=λd=>(aw (Out.nx (ρ.set i (ar d))):M Out)) S=(match c S with|some (.ok d,S1)=>ar (.ok (Out.nx (ρ.set i (ar d))),S1)|some (.ex x,S1)=>ar (.ex x,S1)|none=>none):=λc=>by
  show M.bnd c _ S=_;unfold M.bnd;cases c S with
  |none=>rfl
  |some p=>obtain⟨r,S1⟩:=p;cases r<;>rfl
 rw[F]at Z;unfold iH at Z;cases q:m ρ S with
 |none=>rw[q]at Z;cases Z
 | some p=>
  obtain⟨t,O⟩:=p;rw[q]at Z;have N:bx i m ρ S=_:=F (m ρ);rw[q]at N;cases t with
  |ex x=>
   cases Z;exact h pins s σ H T I ⟨ι,S,ρ,rep,re,.ex x,_,N,k⟩
  | ok d=>
   dsimp only at Z;by_cases hl:O.length<=S.length
   ·rw[if_pos hl]at Z;cases Z;exact h pins s σ H T I ⟨ι,S,ρ,rep,re,_,_,N,k⟩
   ·rw [if_neg hl]at Z;by_cases hk:nM S O
    ·rw [if_pos hk]at Z;cases z:ke S.length (Ep O S.length 60) d with
     |none=>rw[z]at Z;cases Z
     | some u=>
      rw[z]at Z;cases Z;refine dq (h pins s σ H {nx:=λW Q=>∃P:List b_,∀os,T.nx W (nN P os Q),rt:=λ_ _=>False} I ⟨ι,S,ρ,rep,re,_,_,N,λR Q x Y W G=>?_⟩) λf s' hf=>?_
      ·refine⟨R.drop ι.length,λos=>?_⟩;obtain⟨y,rep2⟩:=vQ rep x Y hk os;have U:Rep X.K ι (nN (R.drop ι.length) os Q) (O.take S.length):=by rw[<-rep.len];exact rep2
       have L:R.take ι.length=ι:=by obtain⟨more,rfl⟩:=x.ids;simp
       refine k ι _ y U W ?_;refine RelE.swap (n:=ι.length) (d:=d) (u:=u) (λv w=>?_) (λe v c r=>?_) G λe z=>?_
       ·have:=xD (n:=ι.length) (os:=os) (λk us a=>by rw[rep.len];exact yR Y 60 k us a) Y.nd w (by rw[rep.len];exact z);rw[L]at this;exact this
       ·have:=RelD.down (n:=ι.length) (os:=os) r c;rw[L]at this;exact this
       ·obtain⟨j,l⟩:=List.getElem?_of_mem z;obtain⟨v,_,r⟩:=re.get l;exact r.cl
      ·cases f with
       |next=>
        obtain⟨W,Q,A,P,o⟩:=hf;obtain⟨os,C⟩:=Inv.fz A P;exact⟨W,_,C,o os⟩
       |ret v=>obtain⟨_,_,_,_,_,z⟩:=hf;exact z.elim
       |brk=>obtain⟨_,_,_,z⟩:=hf;exact z.elim
       |cont=>obtain⟨_,_,_,z⟩:=hf;exact z.elim
    ·rw[if_neg hk]at Z;cases Z
end
structure GrX(P:eb)(w:er)(K:dt)(mg:Str->Option aC)(base:fg):Prop where
 ex:∃C f fd,v_ K f_ "TooGreat"=ar (ar (.ref C))/\Fu K C f=c_/\FnOk P w K mg base (oG P w) 1 f fd ["self","many","most"] (Ng C)/\Binds K fd ["self","many","most"] []
section
variable {X:Cx}{Ek:XK}
end
theorem DefX.none{P:eb}{w:er}{K:dt}{Y:Str->Option aC}{base:fg}{k:Nat}{x qual:Str}{st:sb}{f:b_}{Z:f'}{X:List Str}(F:Fun K x qual st f Z)(T:Y x=ar (.ref f))(U:Binds K Z X []):DefX P w K Y base k x X (λ_=>M.fail):=
 ⟨f,Z,⟨λvs H Q E ⟨_,_,_,_,_,h⟩=>(ag h).elim,λA outer s H args us vs Q E _ _ _ _ ⟨_,_,_,_,_,h⟩=>(ag h).elim⟩,T,F.kp,U⟩
def Fv(K:dt):Bool:=aY.all λn=>match v_ K f_ n with
 |some (ar (.ref C))=>(match TB K C with|some cd=>cd.hasDict|none=>c_)
 |_=>c_
theorem GQ{K:dt}(h:Fv K=c_):∀n∈aY,∀C,v_ K f_ n=ar (ar (.ref C))->∀cd,TB K C=ar cd->cd.hasDict=true:=by intro n Y C X cd Z;have:=NT.mp h n Y;rw[X]at this;dsimp only at this;rw[Z]at this;exact this
section
variable {X:Cx}{E:XD}
theorem Fw(Z:hZ X.K=c_)(W:Fv X.K=c_)(U:SE X E e m)(Y:j7 e "many" X.env (g6 e X.env)=g6 e X.env:=by rfl):SE X E (.Attribute e "many" pos) (nO dr m):=yS Z (GQ W) U rfl Y
theorem Fx(Z:hZ X.K=c_)(W:Fv X.K=c_)(U:SE X E e m)(Y:j7 e "most" X.env (g6 e X.env)=g6 e X.env:=by rfl):SE X E (.Attribute e "most" pos) (nO c_ m):=yS Z (GQ W) U rfl Y
end
end S7
namespace S3
open PySem PySem.Spec PyProof.Rows L2 S4
mutual
theorem xE:∀d,fy n d=c_->ke n g d=ar d
 | .lst k,h=>by unfold fy at h;unfold ke;rw[if_pos (OC h)]
 | .tup ds,h=>by unfold fy at h;unfold ke;rw[ia ds h];rfl
 | .ro ds,h=>by unfold fy at h;unfold ke;rw[ia ds h];rfl
 | .fz ds,h=>by unfold fy at h;unfold ke;rw[ia ds h];rfl
 | .fn _ _ _ ds _,h=>by unfold fy at h;unfold ke;rw[ia ds h];rfl
 | .exc _ ds,h=>by unfold fy at h;unfold ke;rw[ia ds h];rfl
 | .non,_=>by unfold ke;rfl
 | .bl _,_=>by unfold ke;rfl
 | .int _,_=>by unfold ke;rfl
 | .str _,_=>by unfold ke;rfl
 | .emp,_=>by unfold ke;rfl
theorem ia:∀ds,cn n ds=c_->ju n g ds=ar ds
 |[],_=>by unfold ju;rfl
 |d::ds,h=>by
  unfold cn at h;rw[OA]at h;unfold ju;rw[xE d h.1,ia ds h.2]
end
mutual
theorem CH(Z:m<=n):∀d,fy m d=c_->fy n d=c_
 | .lst k,h=>by unfold fy at h⊢;exact NJ (NK (OC h) Z)
 | .tup ds,h=>by unfold fy at h⊢;exact jf Z ds h
 | .ro ds,h=>by unfold fy at h⊢;exact jf Z ds h
 | .fz ds,h=>by unfold fy at h⊢;exact jf Z ds h
 | .fn _ _ _ ds _,h=>by unfold fy at h⊢;exact jf Z ds h
 | .exc _ ds,h=>by unfold fy at h⊢;exact jf Z ds h
 | .non,_=>by unfold fy;rfl
 | .bl _,_=>by unfold fy;rfl
 | .int _,_=>by unfold fy;rfl
 | .str _,_=>by unfold fy;rfl
 | .emp,_=>by unfold fy;rfl
theorem jf(Z:m<=n):∀ds,cn m ds=c_->cn n ds=c_
 |[],_=>by unfold cn;rfl
 |d::ds,h=>by
  unfold cn at h⊢;rw[OA]at h⊢;exact⟨CH Z d h.1,jf Z ds h.2⟩
end
section
variable {c:M D}{S:aB}{Q:D->aB->Prop}{v:D}
theorem Fy:iH (aw v)=aw v:=by funext S;show(if S.length<=S.length then _ else _)=_;rw[if_pos (Nu _)];rfl
theorem CI:iH (M.raise x)=M.raise x:=rfl
theorem p9(e:c S=ar (.ok d,S'))(Y:nM S S')(X:S.length<S'.length\/u=d)(W:S.length<=S'.length)(Z:ke S.length (Ep S' S.length 60) d=ar u):iH c S=ar (.ok u,S'.take S.length):=by
 unfold iH;rw[e];dsimp only;by_cases h:S'.length<=S.length
 ·have hd:u=d:=X.resolve_left (by omega);rw[if_pos h,hd,Oe h]
 ·rw[if_neg h,if_pos Y,Z]
theorem Fz(h:runs c S λd Z=>nM S Z/\S.length<=Z.length/\fy S.length d=c_/\Q d (Z.take S.length)):runs (iH c) S Q:=by obtain⟨d,Z,e,Y,X,hd,q⟩:=h;exact⟨d,_,p9 e Y (.inr rfl) X (xE d hd),q⟩
theorem qb:nM S (S++G):=λk xs Z e=>.inl (by rw[N4 Z]at e;exact e)
theorem CJ(h:runs c S λd Z=>(∃G,Z=S++G)/\fy S.length d=c_/\Q d S):runs (iH c) S Q:=by obtain⟨d,Z,e,⟨G,rfl⟩,hd,q⟩:=h;exact Fz ⟨d,_,e,qb,by simp,hd,by simpa using q⟩
theorem vT(h:runs c S λd Z=>∃G p us,d= .lst p/\Z=S++G/\Z[p]? =ar us/\S.length<=p/\cn S.length us=c_/\Q (.fz us) S):runs (iH c) S Q:=by
 obtain⟨d,Z,e,G,p,us,rfl,rfl,Y,U,W,q⟩:=h;have X:=(Nx.mp Y).1;refine⟨.fz us,S,?_,q⟩;have:=p9 (u:=.fz us) e qb (.inl (by omega)) (by simp) (by unfold ke;rw[if_neg (by omega)];show(((S++G)[p]?).bind λxs=>ju S.length (Ep (S++G) S.length 59) xs).map D.fz=_;rw[Y,Ph,ia us W];rfl)
 rw[this];simp
theorem bH{Y:Type}{c:M Y}{v:Y}(h:∀S,runs c S λd Z=>d=v/\Z=S):c=aw v:=by funext S;obtain⟨d,Z,e,rfl,rfl⟩:=h S;exact e
theorem GR(Y:fy 0 v=c_)(h:∀S,runs c S λd Z=>d=v/\∃G,Z=S++G):iH c=aw v:=
 bH λS=>CJ (su (h S) λd Z ⟨e,g⟩=>⟨g,by rw[e];exact CH (NN _) v Y,e,rfl⟩)
theorem FA(Y:cn 0 us=c_)(h:∀S,runs c S λd Z=>∃G p,d= .lst p/\Z=S++G/\Z[p]? =ar us/\S.length<=p):iH c=aw (.fz us):=
 bH λS=>vT (su (h S) λd Z ⟨G,p,e1,e2,e3,e4⟩=>⟨G,p,us,e1,e2,e3,e4,jf (NN _) us Y,rfl,rfl⟩)
theorem bJ(Z:cn 0 us=c_)(Y:us.length<=lim):iH (bp us)=aw (.fz us):=
 FA Z λS=>AD.mpr ⟨Y,[us],S.length,rfl,rfl,by simp,Nu _⟩
end
theorem cM:ku ⟨its,.none⟩=aw ():=by funext S;unfold ku;rw[if_pos (show Iter.okS ⟨its,.none⟩ S from trivial)];rfl
section
variable {its:List D}{g:nE}{t:aI->M Bool}{m:TM}
theorem vU(R:aI->Prop)(q:D->Bool)(f:D->D):∀(items:List D) (ρ:aI),R ρ->(∀d∈items,∀ ρ,R ρ->∃Z,g d ρ=aw Z/\R Z/\t Z=aw (q d)/\(q d=c_->m Z=aw (f d)))->
  cy ⟨its,.none⟩ g t m items ρ=aw ((items.filter q).map f)
 |[],ρ,_,_=>by unfold cy;rw[cM];rfl
 |d::ds,ρ,hR,hb=>by
  obtain⟨Z,e1,Y,e2,W⟩:=hb d (NM ..) ρ hR;have U:=vU R q f ds Z Y λx X=>hb x (NF _ X);unfold cy;rw[cM,aj,e1,aj,e2,aj,U];cases hq:q d with
  |true=>rw[P3 hq,if_pos rfl,W hq,aj];rfl
  |false=>rw[P4 (by rw[hq];decide),if_neg (by decide)]
theorem FB(R:aI->Prop)(q:D->Bool)(f:D->D)(Y:its.length<=lim)(X:R ρ)(Z:∀d∈its,∀ ρ,R ρ->∃ ρ1,g d ρ=aw ρ1/\R ρ1/\t ρ1=aw (q d)/\(q d=c_->m ρ1=aw (f d))):
  fN ⟨its,.none⟩ g t m ρ=aw ((its.filter q).map f):=by
 unfold fN;rw[if_pos Y];exact vU R q f its ρ X Z
end
end S3
namespace S7
open PySem PySem.Spec PyProof.Rows L2 S3
section
variable {X:Cx}{E:XD}{k i jn jy:Nat}{a c':b_}{ql:Str}{ds:List D}{vs:List V}{m:TM}{x n y cx:Str}{p cpos epos np p1 p2 p3 hpos tpos:Pos}
end
section
variable {X:Cx}{x ql:Str}{k k0 i:Nat}{a c':b_}{ps:List Str}{R:D->M D->List D->M D}{R':M D->List D->M D}{p pos:Pos}{e:Expr}{es:List Expr}{ms:S3.aI->M (List D)}{m:TM}{ds:List D}{vs:List V}
end
section
variable {X:Cx}{E:XD}{pos:Pos}
end
end S7
namespace S3
open PySem PySem.Spec PyProof.Rows L2 PySem.SeqAt
section
variable {X:Cx}{E:XD}{o e:Expr}{es:List Expr}{m:TM}{ms:aI->M (List D)}{pos:Pos}
end
end S3
section
namespace L2
open PySem PySem.Spec PyProof.Rows
def MG(x:Str):It:=⟨λi _=>i<x.cps.size,λi H v H'=>H'=H/\∃c,x.cps[i]? =ar c/\v= .str ⟨#[c]⟩,λi _=>x.cps.size<=i⟩
theorem CK{P:eb}{w:er}{K:dt}{G:Expr}(it:b_)(x:Str)(t:Tok):Turn P w K G (MG x) [it] it (λi h=>h.IsStrIter it "str_ascii_iterator" x t i) where
 mem:=by simp
 obj:=λi h st b Z=>by
  have e:b=it:=by simpa using Z
  subst e;obtain⟨o,e,c,d⟩:=st;exact⟨o,e,λv z=>by rw[d]at z;cases z⟩
 keep:=λi h h' st k=>let ⟨o,e,r⟩:=st;⟨o,k it (by simp) o e,r⟩
 item:=by intro X S hw Q O i pins s σ H E I hf st Y;subst S hw Q;have Y:i<x.cps.size:=Y;obtain⟨f0,f1,f2,R,f4,T⟩:=hf it (by simp);refine wpAny_pyNext_ascii_item st (c:=x.cps[i]) (by simp[Y]) λh' U N=>?_;have L:Inv X pins σ H {s with heap:=h',toks:=s.toks+1}:=I.turned (λb o Z e=>(N.2 b Z).trans e) f0 f1 R f4 T;obtain⟨o,e,c,d⟩:=id U;exact⟨_,rfl,ye (s:={s with heap:=h',toks:=s.toks+1}) e c d (by decide) ⟨.str ⟨#[x.cps[i]]⟩,H,L,⟨_,rfl⟩,⟨rfl,_,by simp[Y],rfl⟩,U,λb Z=>(hf b Z).1⟩⟩
 done:=by intro X S hw Q O i pins s σ H E I hf st Y;subst S hw Q;obtain⟨f0,f1,f2,R,f4,T⟩:=hf it (by simp);have Y:x.cps.size<=i:=Y;exact wpAny_pyNext_ascii_end (I.ok.hd O) st (by simp;omega) λh' J=>⟨rfl,I.turned (t':=s.toks) (λb o Z e=>J b o Z e) f0 f1 R f4 T⟩
 self:=λ_ _ _ _ _ st h=>wpAny_pyIter_striter_ascii st h
section
variable {X:Cx}{tg:Expr}
def KZ(tl:TE):TI:=λσ H R=>tl σ H λx H1=>∃z,x= .str z/\z.cps.all (· <128)=c_/\R (MG z) H1
theorem xF{l:Expr}{tl:TE}(W:PE X l tl):PI X tg l (KZ tl):=by
 intro pins s σ H R I h;refine dq (W pins s σ H _ I h) λv s1 ⟨x,H1,I1,r1,q1⟩=>?_;obtain⟨z,e,Y,q⟩:=q1;subst e;obtain⟨t,rfl⟩:=(show ∃t,v=k8 z t from r1);refine wpAny_pyIter_ascii Y ?_;refine⟨s1.heap.objs.size,[s1.heap.objs.size],_,_,H1,rfl,I1.kept (t':=s1.toks) λb o e=>Nq _ e,CK _ z t,⟨_,NA _ rfl,rfl,rfl⟩,λb Z=>?_,q⟩;have e:b=s1.heap.objs.size:=by simpa using Z
 subst e;exact I1.fpOk (Nu _) (I1.hok.fresh (Nu _))
end
end L2
namespace S3
open PySem PySem.Spec PyProof.Rows L2
section
variable {X:Cx}{E:XD}{a b e o tg:Expr}{es:List Expr}{m n:TM}{ms:aI->M (List D)}{pos:Pos}
def jg(z:Str):List D:=z.cps.toList.map λc=>.str ⟨#[c]⟩
def CL:D->M Iter
 | .str z=>if z.cps.all (· <128)=c_ then aw ⟨jg z,.none⟩else M.fail
 |_=>M.fail
abbrev AK(m:TM):aI->M Iter:=λρ=>do let x<-m ρ;CL x
theorem xG{K:dt}{z:Str}{ι:List b_}{H:Hp}:il K ⟨jg z,.none⟩ (MG z) ι H:=by
 intro Y Q P e rep2 ok i;have Z:(jg z).length=z.cps.size:=by unfold jg;simp
 refine⟨λd hd=>?_,λh=>by show z.cps.size<=i;rw[<-Z];exact h⟩;have S:i<z.cps.size:=by rw[<-Z];exact(Nx.mp hd).1
 refine⟨S,λx R T=>?_⟩;obtain⟨rfl,c,U,rfl⟩:=T;have e2:(jg z)[i]? =ar (.str ⟨#[c]⟩):=by unfold jg;simp[U]
 rw[show(jg z)[i]? =ar d from hd]at e2;cases e2;exact⟨.refl,rep2,.str _⟩
theorem IU(Q:SE X E e m):SI X E tg e (AK m):=by
 intro pins s σ H R I h;obtain⟨ι,S,ρ,rep,re,c⟩:=h;obtain⟨r,W,T,k⟩:=id (ai c);cases r with
 |ex x=>exact xF Q pins s σ H R I ⟨ι,S,ρ,rep,re,.ex x,W,T,k⟩
 | ok d=>
  cases d with
  | str z=>
   refine xF Q pins s σ H R I ⟨ι,S,ρ,rep,re,.ok (.str z),W,T,λZ Y e1 rep1 v N=>?_⟩;have U:cont X.K E (CL (.str z)) Z W Y (λit P _ O=>∀J,il X.K it J P O->R J O):=k Z Y e1 rep1;cases N;by_cases ha:z.cps.all (· <128)=c_
   ·rw[show CL (.str z)=aw ⟨jg z,.none⟩from if_pos ha]at U;exact⟨z,rfl,ha,ah U .refl rep1 _ xG⟩
   ·rw[show CL (.str z)=M.fail from if_neg ha]at U;exact(ag U).elim
  |_=>exact xF Q pins s σ H R I ⟨ι,S,ρ,rep,re,.ok _,W,T,λZ Y e1 rep1 v N=>(ag (k Z Y e1 rep1)).elim⟩
def dQ:D->D->M D
 | .str i,.str j=>if i.length+j.length<=10000 then aw (.str (i++j))else M.fail
 |_,_=>M.fail
theorem IV:10000<=sizeLine:=by rw[Oo];decide
theorem CM:ou X.K E dQ (λx y H Q=>∃i j,x= .str i/\y= .str j/\i.length+j.length<=sizeLine/\Q (.str (i++j)) H):=by
 intro ι S H W U v1 v2 Q rep Y Z c;unfold dQ at c;split at c
 ·next i j=>
  split at c
  ·next hl=>cases Y;cases Z;exact⟨i,j,rfl,rfl,Nz hl IV,ah c .refl rep _ (.str _)⟩
  ·exact(ag c).elim
 ·exact(ag c).elim
theorem dR(Y:SE X E a m)(Z:SE X E b n):SE X E (.BinOp a .Add b pos) (λρ=>do let x<-m ρ;let y<-n ρ;dQ x y):=pj wQ CM Y Z
def FC:D->D->M D
 | .str i,.str j=>aw (.bl (!(i_ j i 0 j.length 1).isEmpty))
 |_,_=>M.fail
theorem FD:ou X.K E FC (λx y H Q=>∃i j,x= .str i/\y= .str j/\Q (.bl (!(i_ j i 0 j.length 1).isEmpty)) H):=by
 intro ι S H W U v1 v2 Q rep Y Z c;unfold FC at c;split at c
 ·next i j=>cases Y;cases Z;exact⟨i,j,rfl,rfl,ah c .refl rep _ (.bl _)⟩
 ·exact(ag c).elim
theorem IW(Y:SE X E a m)(Z:SE X E b n)(W:ly .In b=false:=by rfl):SE X E (.Compare a [.In] [b] pos) (λρ=>do let x<-m ρ;let y<-n ρ;FC x y):=tJ zW FD Y Z W
def jt:List D->M D
 |[.str z]=>if z.length<=10000 then aw (.int z.length)else M.fail
 |_=>M.fail
theorem xH:jo X.K E jt (λxs H Q=>∃z,xs=[.str z]/\z.length<=sizeLine/\Q (.int z.length) H):=by
 intro ι S H ds vs Q rep r c;unfold jt at c;split at c
 ·next z=>
  obtain⟨v,ws,rfl,Y,Z⟩:=r.cons_inv;cases Z.nil_inv;split at c
  ·next hl=>cases Y;exact⟨z,rfl,Nz hl IV,ah c .refl rep _ (.int _)⟩
  ·exact(ag c).elim
 ·exact(ag c).elim
theorem ug{p:Pos}(Y:X.mg "len"=none)(W:SE X E e m)(Z:Gl X "len":=by rfl)(hs:dV [e] X.env=[(dr,g6 e X.env)]:=by rfl):SE X E (.Call (.Name "len" p) [e] [] pos) (λρ=>do let ds<-(do let x<-m ρ;let xs<-aw [];aw (x::xs));jt ds):=
 iM tm xH Z Y PySem.boot_len (af W ao hs) (by decide) (by decide) hs rfl
theorem AL:cY X (.type "int") (λxs H Q=>∃x k,xs=[.str x]/\PySem.intText? x=ar k/\x.length<=640/\Q (.int k) H):=by intro pins s σ H xs us Q I r h;obtain⟨x,k,rfl,Y,Z,q⟩:=h;obtain⟨u,rfl,U⟩:=vals1 r;obtain⟨t,rfl⟩:=(show ∃t,u=k8 x t from U);exact W.KIN.call_text Y Z ⟨.int k,H,I.tok _,⟨_,rfl⟩,q⟩
def nP:List D->M D
 |[.str x]=>match PySem.intText? x with
  |some k=>if x.length<=640 then aw (.int k)else M.fail
  |none=>M.fail
 |_=>M.fail
theorem xI:jo X.K E nP (λxs H Q=>∃x k,xs=[.str x]/\PySem.intText? x=ar k/\x.length<=640/\Q (.int k) H):=by
 intro ι S H ds vs Q rep r c;unfold nP at c;split at c
 ·next x=>
  obtain⟨v,ws,rfl,Y,Z⟩:=r.cons_inv;cases Z.nil_inv;cases Y;split at c
  ·next k hk=>
   split at c
   ·next hl=>exact⟨x,k,rfl,hk,hl,ah c .refl rep _ (.int _)⟩
   ·exact(ag c).elim
  ·exact(ag c).elim
 ·exact(ag c).elim
theorem yT{p:Pos}(Y:X.mg "int"=none)(W:SE X E e m)(Z:Gl X "int":=by rfl)(hs:dV [e] X.env=[(dr,g6 e X.env)]:=by rfl):SE X E (.Call (.Name "int" p) [e] [] pos) (λρ=>do let ds<-(do let x<-m ρ;let xs<-aw [];aw (x::xs));nP ds):=
 jZ AL xI Z Y (by decide+kernel) (af W ao hs) (by decide) (by decide) hs rfl
def iV:D->D->M D
 | .str z,.int i=>match iI z.cps.toList i with
  |some c=>if z.length<=10000 then aw (.str ⟨#[c]⟩)else M.fail
  |none=>M.fail
 |_,_=>M.fail
theorem FE:ou X.K E iV HL:=by
 intro ι S H W U v1 v2 Q rep Y Z c;unfold iV at c;split at c
 ·next z i=>
  split at c
  ·next k hk=>
   split at c
   ·next hl=>cases Y;cases Z;exact⟨z,i,k,rfl,rfl,Nz hl IV,hk,ah c .refl rep _ (.str _)⟩
   ·exact(ag c).elim
  ·exact(ag c).elim
 ·exact(ag c).elim
theorem mr(Y:SE X E a m)(Z:SE X E b n)(hs:lB b:=by intro _ _;rfl):SE X E (.Subscript a b pos) (λρ=>do let x<-m ρ;let y<-n ρ;iV x y):=GE Bt FE Y Z hs
theorem FF{x z:Str}(Z:Gl X x)(Y:∃t,X.mg x=ar (.str z t))(W:(x==("__debug__":Str))=false:=by decide):SE X E (.Name x pos) (mK (.str z)):=
 let ⟨t,h⟩:=Y
 iK (sW Z h (v:=.str z) ⟨t,rfl⟩ W) λ_ _=>.str z
end
end S3
namespace L2
open PySem PySem.Spec PyProof.Rows
section
variable {X:Cx}{e:Expr}{es:List Expr}
def MH(t:TE):TE:=λσ H Q=>t σ H λx H1=>∃i,x= .int i/\i.natAbs.log2<1920/\Q (.str (L_ i)) H1
theorem IX{t:TE}{pos:Pos}(h:PE X e t):PE X (.FormattedValue e (-1) none pos) (MH t):=by intro pins s σ H Q I Z;refine wpAny_FormattedValue_plain (dq (h pins s σ H _ I Z) λv s1 ⟨x,H1,I1,r1,i,e1,hd,q⟩=>?_);subst e1;obtain⟨t,rfl⟩:=(show ∃t,v=oi i t from r1);exact wpAny_formatField_int hd ⟨.str (L_ i),H1,I1.tok _,⟨_,rfl⟩,q⟩
theorem qc{M:SK}{A:g_}{E:aC->a_->Prop}{Q Z:Str->a_->Prop}(k:∀out s,Q out s->Z out s):∀(ps:List (Sem aC)) (acc:Str) (s:a_),Joins M A E ps acc Q s->Joins M A E ps acc Z s
 |[],acc,s,h=>k acc s h
 |p::ps,acc,s,h=>dq h λv s1 ⟨y,t,e,hl,r⟩=>⟨y,t,e,hl,qc k ps _ s1 r⟩
abbrev TJ:=St->Hp->(List Str->Hp->Prop)->Prop
def PJ(X:Cx)(es:List Expr)(t:TJ):Prop:=∀(pins:List (b_×Obj)) (s:a_) (σ:St) (H:Hp) (acc:Str) (Q:Str->Hp->Prop),Inv X pins σ H s->acc.length+1000*es.length<=sizeLine->t σ H (λys H'=>Q (ys.foldl (· ++·) acc) H')->
 Joins (eK X.prog X.w) X.A X.xe (Sv es X.env) acc (λout s1=>out.length<=sizeLine/\∃H',Inv X pins σ H' s1/\Q out H') s
theorem PJ.imp{t t':TJ}(h:PJ X es t)(k:∀ σ H Q,t' σ H Q->t σ H Q):PJ X es t':=λpins s σ H acc Q I Z hw=>h pins s σ H acc Q I Z (k σ H _ hw)
theorem IY:PJ X [] (λσ H R=>R [] H):=λpins s σ H acc Q I Y Z=>⟨by simpa using Y,H,I,Z⟩
theorem FG{te:TE}{t:TJ}(O:PE X e te)(Y:PJ X es t)(hs:Sv (e::es) X.env=g6 e X.env::Sv es X.env:=by rfl):PJ X (e::es) (λσ H R=>te σ H λx Z=>∃y,x= .str y/\y.length<=1000/\t σ Z λys U=>R (y::ys) U):=by intro pins s σ H acc Q I S T;rw[hs];refine dq (O pins s σ H _ I T) λv s1 ⟨x,Z,I1,r1,y,e1,hy,q⟩=>?_;subst e1;obtain⟨u,rfl⟩:=(show ∃t,v=k8 y t from r1);have P:acc.length+1000*(es.length+1)<=sizeLine:=S;have W:(acc++y).length=acc.length+y.length:=Str.length_append acc y;exact⟨y,u,rfl,by omega,Y pins s1 σ Z (acc++y) Q I1 (by omega) q⟩
def FH(t:TJ):TE:=λσ H Q=>t σ H λys H1=>Q (.str (ys.foldl (· ++·) ri)) H1
theorem AM{e2:Expr}{t:TJ}{pos:Pos}(h:PJ X (e::e2::es) t)(W:es.length<=100):PE X (.JoinedStr (e::e2::es) pos) (FH t):=by
 intro pins s σ H Q I Y;refine wpAny_JoinedStr ?_;have:=h pins s σ H ri (λy Z=>Q (.str y) Z) I (by
  show 0+1000*(es.length+2)<=sizeLine;have:200000<=sizeLine:=by rw[Oo];decide
  omega) Y
 exact qc (λout s1 ⟨hz,H1,I1,q⟩=>⟨hz,.str out,H1,I1.tok _,⟨_,rfl⟩,q⟩) _ _ _ this
end
end L2
namespace S3
open PySem PySem.Spec PyProof.Rows L2
section
variable {X:Cx}{E:XD}{a b e o tg:Expr}{es:List Expr}{m n:TM}{ms:aI->M (List D)}{pos:Pos}
theorem xJ(h:SE X E e m):SE X E (.FormattedValue e (-1) none pos) (cm iO m):=by
 refine PE.imp (IX h) λσ H Q q=>?_;obtain⟨ι,S,ρ,rep,re,c⟩:=q;refine⟨ι,S,ρ,rep,re,ak (ai (ai c)) λx W S1 T e1 rep1 U v Y=>?_⟩;have Z:=ah (ah (ai U) .refl rep1) .refl rep1;cases x with
 | int i=>
  cases Y;by_cases hi:i.natAbs.log2<1920
  ·rw[show iO [.int i]=aw (.str (L_ i))from if_pos hi]at Z;exact⟨i,rfl,hi,ah Z .refl rep1 _ (.str _)⟩
  ·rw[show iO [.int i]=M.fail from if_neg hi]at Z;exact(ag Z).elim
 |_=>exact(ag Z).elim
def Nh(K:dt)(E:XD)(js:aI->M (List Str)):TJ:=λσ H R=>∃ ι S ρ,Rep K ι H S/\RelE K ι H ρ σ/\cont K E (js ρ) ι S H (λys _ _ H'=>R ys H')
def SJ(X:Cx)(E:XD)(es:List Expr)(js:aI->M (List Str)):Prop:=PJ X es (Nh X.K E js)
def LL:D->M Str
 | .str y=>if y.length<=1000 then aw y else M.fail
 |_=>M.fail
abbrev xK:aI->M (List Str):=λ_=>aw []
abbrev ib(m:TM)(js:aI->M (List Str)):aI->M (List Str):=λρ=>do let x<-m ρ;let y<-LL x;let ys<-js ρ;aw (y::ys)
abbrev sy(js:aI->M (List Str)):TM:=λρ=>do let ys<-js ρ;aw (.str (ys.foldl (· ++·) ri))
theorem CN:SJ X E [] xK:=by refine PJ.imp IY λσ H Q q=>?_;obtain⟨ι,S,ρ,rep,re,c⟩:=q;exact ah c .refl rep
theorem kf{js:aI->M (List Str)}(P:SE X E e m)(Y:SJ X E es js)(hs:Sv (e::es) X.env=g6 e X.env::Sv es X.env:=by rfl):SJ X E (e::es) (ib m js):=by
 refine PJ.imp (FG P Y hs) λσ H R q=>?_;obtain⟨ι,S,ρ,rep,re,c⟩:=q;refine⟨ι,S,ρ,rep,re,ak (ai c) λx W S1 N e1 rep1 Z v1 U=>?_⟩;cases x with
 | str y=>
  cases U;by_cases hy:y.length<=1000
  ·rw[show LL (.str y)=aw y from if_pos hy]at Z;have Q:=ah (ai Z) .refl rep1;exact⟨y,rfl,hy,W,S1,ρ,rep1,re.later rep e1,ak (ai Q) λys T K L e2 rep2 O=>ah O .refl rep2⟩
  ·rw[show LL (.str y)=M.fail from if_neg hy]at Z;exact(ag (ai Z)).elim
 |_=>exact(ag (ai Z)).elim
theorem sA{e2:Expr}{js:aI->M (List Str)}(h:SJ X E (e::e2::es) js)(Z:es.length<=100:=by decide):SE X E (.JoinedStr (e::e2::es) pos) (sy js):=by refine PE.imp (AM h Z) λσ H Q q=>?_;obtain⟨ι,S,ρ,rep,re,c⟩:=q;exact⟨ι,S,ρ,rep,re,ak (ai c) λys Y S1 U e1 rep1 W=>ah W .refl rep1 _ (.str _)⟩
open Builtin.Str in
def kC(x y:Str):List Str:=match occurrences x y 0 x.length 1 with
 |i::_=>[strSub x 0 i,y,strSub x (i+y.length) x.length]
 |[]=>[x,ri,ri]
def GS:V->List V->Hp->VK->Prop:=λx vs H Q=>∃a b,x= .str a/\vs=[.str b]/\(b.length==0)=dr/\a.length<=10000/\∀p,H p=none->Q (.ref p) (upd H p (.tup ((kC a b).map V.str)))
theorem FI:Gy X "str.partition" GS:=by
 intro pins s σ H x vs v us Q I O T h;obtain⟨a,b,rfl,rfl,W,S,q⟩:=h;obtain⟨u,rfl,U⟩:=T.one;obtain⟨t,rfl⟩:=(show ∃t,v=k8 a t from O);obtain⟨P,rfl⟩:=(show ∃t,u=k8 b t from U);refine Qa F.slot_str_partition (PQ _ _ _) F.entry_str_partition (F.args_str_partition_2 _ _) (meets_str_partition a b t P W (Nz S IV)) ?_;have R:=I.hok.fresh (Nu _);have Y:∀a b c:Str,([a,b,c].map V.str).length<=sizeLine:=λ_ _ _=>by show 3<=sizeLine;rw[Oo];decide
 have Z:=q _ R;unfold kC at Z;cases ho:i_ a b 0 a.length 1 with
 |nil=>
  rw[ho]at Z;exact⟨.ref s.heap.objs.size,_,I.laid (λb o e=>Nq _ e) (Nu _) (show bh X.prog X.w _ _ _ (.tup ([a,ri,ri].map V.str))from⟨mI (Y _ _ _),_,.cons ⟨_,rfl⟩ (.cons ⟨_,rfl⟩ (.cons ⟨_,rfl⟩ .nil)),Rq _ _⟩),rfl,Z⟩
 |cons i r=>
  rw[ho]at Z;exact⟨.ref s.heap.objs.size,_,I.laid (λb o e=>Nq _ e) (Nu _) (show bh X.prog X.w _ _ _ (.tup ([kr a 0 i,b,kr a (i+b.length) a.length].map V.str))from⟨mI (Y _ _ _),_,.cons ⟨_,rfl⟩ (.cons ⟨_,rfl⟩ (.cons ⟨_,rfl⟩ .nil)),Rq _ _⟩),rfl,Z⟩
def jN:D->List D->M D:=λt ds=>match t,ds with
 | .str a,[.str b]=>if (b.length==0)=dr/\a.length<=10000 then cW ((kC a b).map D.str)else M.fail
 |_,_=>M.fail
theorem qd{K:dt}{ι:List b_}{H:Hp}:∀l:List Str,RelDs K ι H (l.map D.str) (l.map V.str)
 |[]=>.nil
 |x::l=>.cons (.str x) (qd l)
theorem CO:EX X.K E jN GS:=by
 intro ι S H d ds v vs Q rep r rs c;unfold jN at c;split at c
 ·next a b=>
  obtain⟨w,ws,rfl,Y,Z⟩:=rs.cons_inv;cases Z.nil_inv;cases r;cases Y;split at c
  ·next hb=>exact⟨a,b,rfl,rfl,hb.1,hb.2,(fG c rep (qd _)).2⟩
  ·exact(ag c).elim
 ·exact(ag c).elim
open Builtin.Str in
def CP:V->List V->Hp->VK->Prop:=λx vs H Q=>∃a b,x= .str a/\vs=[.str b]/\(b.length==0)=dr/\a.length<=10000/\(Txt.split a b).length<=lim/\∀p,H p=none->Q (.ref p) (upd H p (.lst ((Txt.split a b).map V.str)))
theorem sC:∀(l:List Str) (k:Nat),bj (l.map V.str) (strsFrom k l)
 |[],k=>.nil
 |x::l,k=>.cons ⟨_,rfl⟩ (sC l (k+1))
theorem CQ:Gy X "str.split" CP:=by
 intro pins s σ H x vs v us Q I K O h;obtain⟨a,b,rfl,rfl,S,N,R,q⟩:=h;obtain⟨u,rfl,P⟩:=O.one;obtain⟨t,rfl⟩:=(show ∃t,v=k8 a t from K);obtain⟨T,rfl⟩:=(show ∃t,u=k8 b t from P);have L:=I.hok.fresh (Nu _);have W:=q _ L;have U:=Nz N IV;have one:∀{t:Tok},(Txt.split a b=[a])->EP X pins σ Q (.ref s.heap.objs.size) {s with heap:=s.heap.push {cls:=.type "list",data:=.seq [k8 a t].toArray}}:=λ{t} e=>by rw[e]at W;exact⟨.ref s.heap.objs.size,_,I.laid (t':=s.toks) (λb o e=>Nq _ e) (Nu _) (show bh X.prog X.w _ _ _ (.lst ([a].map V.str))from⟨by show 1<=sizeLine;rw[Oo];decide,[.str a t],_,.cons ⟨_,rfl⟩ .nil,NA _ rfl⟩),rfl,W⟩
 by_cases h1:(decide (a.length<b.length)||decide (y1 a<y1 b))=c_
 ·exact Qa Qt (PQ _ _ _) Rc (QS _ _) (meets_str_split_cannot_occur a b t T h1) (one (by unfold Txt.split;exact if_pos h1))
 ·have Y:(decide (a.length<b.length)||decide (y1 a<y1 b))=false:=by simpa using h1
  by_cases h2:(i_ a b 0 a.length (a.length+1)).isEmpty=c_
  ·exact Qa Qt (PQ _ _ _) Rc (QS _ _) (meets_str_split_not_found a b t T Y S h2) (one (by unfold Txt.split;rw[if_neg h1,if_pos h2]))
  ·have e:Txt.split a b=Builtin.Str.partsBetween a (i_ a b 0 a.length (a.length+1)) b.length:=by unfold Txt.split;rw[if_neg h1,if_neg h2]
   rw[e]at W R;have Z:=Nz R fF;refine Qa Qt (PQ _ _ _) Rc (QS _ _) (meets_str_split_sep a b t T Y S (by simpa using h2) U Z) ?_;exact⟨.ref s.heap.objs.size,_,I.laid (λb o e=>Nq _ e) (Nu _) (show bh X.prog X.w _ _ _ (.lst ((Builtin.Str.partsBetween a (i_ a b 0 a.length (a.length+1)) b.length).map V.str))from⟨by rw[Nt];exact Z,_,_,sC _ _,NA _ rfl⟩),rfl,W⟩
def df:D->List D->M D:=λt ds=>match t,ds with
 | .str a,[.str b]=>if (b.length==0)=dr/\a.length<=10000/\(Txt.split a b).length<=lim then bp ((Txt.split a b).map D.str)else M.fail
 |_,_=>M.fail
theorem AN:EX X.K E df CP:=by
 intro ι S H d ds v vs Q rep r rs c;unfold df at c;split at c
 ·next a b=>
  obtain⟨w,ws,rfl,Y,Z⟩:=rs.cons_inv;cases Z.nil_inv;cases r;cases Y;split at c
  ·next hb=>exact⟨a,b,rfl,rfl,hb.1,hb.2.1,hb.2.2,(bt c rep (qd _)).2⟩
  ·exact(ag c).elim
 ·exact(ag c).elim
def GT:D->M Unit
 | .str _=>aw ()
 |_=>M.fail
abbrev cF(f:D->List D->M D)(m n:TM):TM:=λρ=>do let x<-m ρ;GT x;let ds<-(do let y<-n ρ;let ys<-aw [];aw (y::ys));f x ds
theorem uh{name:Str}{R:String}{f:D->List D->M D}{r:V->List V->Hp->VK->Prop}{Z:Pos}(U:Slot "str" name R)(T:T5 (.builtin R)=aw (.type "method_descriptor"))(J:Gy X R r)(A:EX X.K E f r)(B:SE X E o m)(w:SE X E e n)
  (W:j7 o name X.env (g6 o X.env)=g6 o X.env:=by rfl)
  (Y:(Z.endLine==pos.line)=true:=by rfl) (hs:dV [e] X.env=[(dr,g6 e X.env)]:=by rfl):
  SE X E (.Call (.Attribute o name Z) [e] [] pos) (cF f m n):=by
 refine PE.imp (GA PySem.F.plainAttrs_str U T J B (af w ao hs) W (by rw[hs];rfl) Y hs rfl) λσ H Q h=>?_;obtain⟨ι,S,ρ,rep,re,c⟩:=h;refine⟨ι,S,ρ,rep,re,ak (ai c) λx O S1 u e1 rep1 N v y=>?_⟩;cases x with
 |str us=>
  have G:=ah (ai N) .refl rep1;cases y;exact⟨rfl,O,S1,ρ,rep1,re.later rep e1,ak (ai G) λds P C I e2 rep2 z vs L=>A P C I _ ds _ vs Q rep2 (.str _) L z⟩
 |_=>exact(ag (ai N)).elim
theorem yU{Z:Pos}(U:SE X E o m)(T:SE X E e n)(W:j7 o "partition" X.env (g6 o X.env)=g6 o X.env:=by rfl)(Y:(Z.endLine==pos.line)=true:=by rfl)(hs:dV [e] X.env=[(dr,g6 e X.env)]:=by rfl):
  SE X E (.Call (.Attribute o "partition" Z) [e] [] pos) (cF jN m n):=uh F.slot_str_partition F.type_str_partition FI CO U T W Y hs
theorem mw{Z:Pos}(U:SE X E o m)(T:SE X E e n)(W:j7 o "split" X.env (g6 o X.env)=g6 o X.env:=by rfl)(Y:(Z.endLine==pos.line)=true:=by rfl)(hs:dV [e] X.env=[(dr,g6 e X.env)]:=by rfl):
  SE X E (.Call (.Attribute o "split" Z) [e] [] pos) (cF df m n):=uh Qt F.type_str_split CQ AN U T W Y hs
def strsOf:List D->Option (List Str)
 |[]=>ar []
 | .str y::ds=>(strsOf ds).map (y::·)
 |_::_=>none
theorem qe:∀l:List Str,strsOf (l.map D.str)=ar l
 |[]=>rfl
 |y::l=>by
  show(strsOf (l.map D.str)).map (y::·)=_;rw[qe l];rfl
theorem qf{K:dt}{ι:List b_}{H:Hp}:∀{ds:List D} {vs:List V} {l:List Str},strsOf ds=ar l->RelDs K ι H ds vs->vs=l.map V.str
 |[],_,l,e,r=>by cases e;cases r;rfl
 | .str y::ds,_,l,e,r=>by
  cases r with
  |cons r1 r2=>
   cases r1;obtain⟨Y,Z,rfl⟩:=Option.map_eq_some_iff.mp (show(strsOf ds).map (y::·)=ar l from e);rw[qf Z r2];rfl
theorem sD:∀{l:List Str} {its:List aC},bj (l.map V.str) its->∃Z:List (Str×Tok),Z.map (·.1)=l/\its=strValues Z
 |[],_,.nil=>⟨[],rfl,rfl⟩
 |y::l,_,.cons r rs=>by
  obtain⟨t,rfl⟩:=(show ∃t,_=k8 y t from r);obtain⟨Z,e,rfl⟩:=sD rs;exact⟨(y,t)::Z,by rw[NI,e],rfl⟩
def rJoin(K:dt):V->List V->Hp->VK->Prop:=λx vs H Q=>∃sep p l,x= .str sep/\vs=[.ref p]/\jz K H p (l.map V.str)/\(l.map (·.length)).sum+l.length*sep.length<=100000/\Q (.str (Txt.join sep l)) H
theorem vV(sep:Str)(l:List Str):(Builtin.Str.glued sep l).length<=(l.map (·.length)).sum+l.length*sep.length:=by rw[Qm];exact StrLaws.join_length_le sep l
theorem FJ:Gy X "str.join" (rJoin X.K):=by
 intro pins s σ H x vs v us Q I N R h;obtain⟨sep,p,l,rfl,rfl,O,U,q⟩:=h;obtain⟨u,rfl,S⟩:=R.one;obtain⟨t,rfl⟩:=(show ∃t,v=k8 sep t from N);cases (show u=ee p from S);obtain⟨its,r,P,L⟩:=I.list O;obtain⟨Y,e,rfl⟩:=sD r;have W:100000<=sizeLine:=by rw[Oo];decide
 have Z:Builtin.Str.tooLong ((Y.map (·.1)).toArray.foldl (· +·.length+sep.length) 0)=false:=by rw[e,StrLaws.joinTotal];unfold Builtin.Str.tooLong;exact NQ (by omega)
 refine Qa F.slot_str_join (PQ _ _ _) F.entry_str_join (F.args_str_join_2 _ _) (meets_str_join_list sep t p Y Z) ⟨P.isList,?_⟩;unfold Txt.join at q
 match Y,e with
 |[],e=>
  rw[<-e]at q;exact⟨Nz (vV sep []) (by simp),.str _,H,I.tok _,⟨_,rfl⟩,q⟩
 |[a],e=>
  rw[<-e]at q;exact⟨.str a.1,H,I,⟨_,rfl⟩,q⟩
 |a::b::r,e=>
  have T:=vV sep ((a::b::r).map (·.1));rw[<-e]at q U;exact⟨Nz T (Nz U W),.str _,H,I.tok _,⟨_,rfl⟩,q⟩
def fC:D->List D->M D:=λt ds=>match t,ds with
 | .str sep,[.fz es]=>match strsOf es with
  |some l=>if (l.map (·.length)).sum+l.length*sep.length<=100000 then aw (.str (Txt.join sep l))else M.fail
  |none=>M.fail
 |_,_=>M.fail
theorem CS:EX X.K E fC (rJoin X.K):=by
 intro ι S H d ds v vs Q rep r rs c;unfold fC at c;split at c
 ·next sep es=>
  obtain⟨w,ws,rfl,U,Y⟩:=rs.cons_inv;cases Y.nil_inv;cases r;split at c
  ·next l hl=>
   split at c
   ·next hb=>
    obtain⟨p,o,us,rfl,Z,W⟩:=U.fz_inv;rw[qf hl W]at Z;exact⟨sep,p,l,rfl,rfl,.inl (.inr ⟨o,Z⟩),hb,ah c .refl rep _ (.str _)⟩
   ·exact(ag c).elim
  ·exact(ag c).elim
 ·exact(ag c).elim
theorem jO{Z:Pos}(U:SE X E o m)(T:SE X E e n)(W:j7 o "join" X.env (g6 o X.env)=g6 o X.env:=by rfl)(Y:(Z.endLine==pos.line)=true:=by rfl)(hs:dV [e] X.env=[(dr,g6 e X.env)]:=by rfl):
  SE X E (.Call (.Attribute o "join" Z) [e] [] pos) (cF fC m n):=uh F.slot_str_join F.type_str_join FJ CS U T W Y hs
end
end S3
end
namespace W
open PySem PySem.Spec PyProof.Rows L2 S3 S4 S7
theorem ui:2<=lim:=by unfold lim;omega
theorem K1:3<=lim:=by unfold lim;omega
theorem K2:GD (ar d::r) 0=aw d:=rfl
theorem K3:GD (o0::ar d::r) 1=aw d:=rfl
theorem K4:GD (o0::o1::ar d::r) 2=aw d:=rfl
theorem K5:GD (o0::o1::o2::ar d::r) 3=aw d:=rfl
theorem K6:GD (o0::o1::o2::o3::ar d::r) 4=aw d:=rfl
theorem jh:gm S n (.int i)=ar (.int i):=by cases n<;>rfl
theorem m3:gm S n (.bl b)=ar (.bool b):=by cases n<;>rfl
theorem eq_int{Q:D->aB->Prop}:runs (jv (.int a) (.int b)) S Q↔Q (.bl (decide (a=b))) S:=by
 unfold jv;rw[eP jh jh];have:g8 (.int a) (.int b)=decide (a=b):=by simp only[g8];rw[OZ];simp
 rw[this]
theorem vW(l:List Bool):boolsOf (l.map D.bl)=ar l:=by
 induction l with
 |nil=>rfl
 |cons b l ih=>simp[boolsOf,ih]
theorem cN:(S++[xs])[S.length]? =ar xs:=by simp
theorem K7{Q:D->aB->Prop}:runs (jv (.bl a) (.bl b)) S Q↔Q (.bl (a==b)) S:=by
 unfold jv;rw[eP m3 m3];have:g8 (.bool a) (.bool b)=(a==b):=by cases a<;>cases b<;>simp[g8]
 rw[this]
theorem AO{Z:Type}(a:Z):oa (aw a:M Z)=aw a:=rfl
theorem FK{Z Y:Type}{c:Prop} [Decidable c]{a b:M Z}{f:Z->M Y}:((if c then a else b)>>=f)=if c then a>>=f else b>>=f:=by split<;>rfl
theorem cq{Z:Type}(l:List Z):l.filter (λ_=>c_)=l:=List.filter_eq_self.mpr λ_ _=>rfl
theorem cS{m:du}{ds:List D}(h:m (ds.map ar++k_ (N - n) none)=aw o)(Z:outD o=aw d)(Y:ds.length=n:=by rfl):mn N n m ds=aw d:=by unfold mn rZ;rw[if_pos Y];show(oa (m _)>>=outD)=_;rw[h,AO,aj,Z]
theorem CT{m n:TM}(Y:m ρ=aw x)(Z:n ρ=aw y):GL m n ρ=j9 [x,y]:=by
 have:ae m (ae n aq) ρ=aw [x,y]:=by unfold ae;rw[Y,aj,Z,aj];rfl
 unfold GL;rw[this,aj]
theorem uj{m:TM}(Z:m ρ=aw x):vA m ρ=kN [x]:=by
 have:ae m aq ρ=aw [x]:=by unfold ae;rw[Z,aj];rfl
 unfold vA;rw[this,aj]
theorem K8(h: -(2 ^ 62)<=i/\i<2 ^ 62/\ -(2 ^ 62)<=j/\j<2 ^ 62):j9 [.int i,.int j]=aw ⟨bc i (j - i).toNat,.none⟩:=by unfold j9;exact if_pos h
theorem CU(h: -(2 ^ 62)<=j/\j<2 ^ 62):kN [.int j]=aw ⟨bc 0 j.toNat,.none⟩:=by unfold kN;exact if_pos h
theorem cG{f:D->D->M D}{m n:TM}(Y:m ρ=aw x)(Z:n ρ=aw y):aP f m n ρ=f x y:=by unfold aP;rw[Y,aj,Z,aj]
theorem e9{f:List D->M D}{m:TM}(h:m ρ=aw x):cm f m ρ=f [x]:=by
 have:ae m aq ρ=aw [x]:=by unfold ae;rw[h,aj];rfl
 unfold cm az;rw[this,aj]
theorem dX{m:TM}(h:m ρ=aw x):bM m ρ=aw (.ret x):=by unfold bM;rw[h];rfl
theorem uk(bs:List Bool):cn 0 (bs.map D.bl)=true:=by
 induction bs with
 |nil=>rfl
 |cons x r ih=>rw[NI];unfold cn;rw[ih];unfold fy;rfl
theorem mx{mi:aI->M Iter}{g:nE}{t:i4}{m:TM}(R:aI->Prop)(q:D->Bool)(f:D->D)(U:mi ρ=aw ⟨its,.none⟩)(Z:its.length<=lim)(X:R (ky js ρ))(Y:∀d∈its,∀ ρ,R ρ->∃ ρ1,g d ρ=aw ρ1/\R ρ1/\t ρ1=aw (q d)/\(q d=c_->m ρ1=aw (f d)))
  (W:cn 0 ((its.filter q).map f)=c_):aH (bF mi g t m js) ρ=aw (.fz ((its.filter q).map f)):=by
 have e:bF mi g t m js ρ=bp ((its.filter q).map f):=by unfold bF;rw[U,aj,FB R q f Z X Y,aj]
 unfold aH;rw[e];exact bJ W (by rw[Nt];exact Nz (Py _ _) Z)
section
variable {m n:du}{ρ ρ':aI}{e e1 e2:TM}{x y d:D}{t:i4}{b:Bool}{o:Out}{N k:Nat}{ds:List D}{F:List D->M D}
theorem aS(h:m ρ=aw (.nx ρ')):aG m n ρ=n ρ':=by unfold aG;rw[h];rfl
theorem cO(h:m ρ=aw (.ret d)):aG m n ρ=aw (.ret d):=by unfold aG;rw[h];rfl
theorem qg(h:m ρ=M.raise x):aG m n ρ=M.raise x:=by unfold aG;rw[h];rfl
theorem K9(h:e ρ=aw x):vB e ρ=aw (.nx ρ):=by unfold vB;rw[h];rfl
theorem ji(h:e ρ=aw x):bx i e ρ=aw (.nx (ρ.set i (ar x))):=by unfold bx;rw[h];rfl
theorem dz(h:t ρ=aw b):iU t m n ρ=if b=c_ then m ρ else n ρ:=by unfold iU;rw[h];rfl
theorem bY{f:D->D->M D}(Y:e1 ρ=aw x)(Z:e2 ρ=aw y)(h:f x y=aw (.bl b)):eF f e1 e2 ρ=aw b:=by unfold eF;rw[Y,aj,Z,aj,h];rfl
theorem b7(h:e ρ=aw x):az F (ae e aq) ρ=F [x]:=e9 h
theorem lh(h:e ρ=aw x):aH e ρ=aw x:=by unfold aH;rw[h];exact Fy
theorem MY(h:e ρ=M.raise x):aH e ρ=M.raise x:=by unfold aH;rw[h];exact CI
theorem xM(h:m (ds.map ar++k_ (N - k) none)=aw o)(Y:outD o=aw d)(Z:ds.length=k:=by rfl):rZ N k m ds=aw d:=by unfold rZ;rw[if_pos Z,h,aj,Y]
theorem m4(h:m (ds.map ar++k_ (N - k) none)=M.raise x)(Z:ds.length=k:=by rfl):rZ N k m ds=M.raise x:=by unfold rZ;rw[if_pos Z,h];rfl
end
theorem AQ:oa (bp us)=bp us:=by
 funext S;unfold oa bp;by_cases h:us.length<=lim
 ·rw[if_pos h]
 ·rw[if_neg h]
theorem call2{F:List D->M D}{e1 e2:TM}(Z:e1 ρ=aw x)(Y:e2 ρ=aw y):az F (ae e1 (ae e2 aq)) ρ=F [x,y]:=by
 have:ae e1 (ae e2 aq) ρ=aw [x,y]:=by unfold ae;rw[Z,aj,Y,aj];rfl
 unfold az;rw[this,aj]
theorem fX{e:TM}(h:e ρ=aw (.bl b)):bV e ρ=aw b:=by unfold bV;rw[h];rfl
theorem qh{us:List D}(h:us.length<=lim):da [.fz us]=aw (.tup us):=by show cW us=_;unfold cW;rw[if_pos h]
section
variable {α β:Type}{c:M α}{f:α->M β}{S S1:aB}{a:α}
theorem aK(h:c S=ar (.ok a,S1)):(c>>=f) S=f a S1:=by show M.bnd c f S=_;unfold M.bnd;rw[h]
end
section
variable {m n:du}{ρ ρ':aI}{e e1 e2:TM}{x y:D}{S S1 S2:aB}{c:M D}{f:D->List D->M D}{F:List D->M D}
theorem aL(h:m ρ S=ar (.ok (.nx ρ'),S1)):aG m n ρ S=n ρ' S1:=aK h
theorem sE(h:e ρ S=ar (.ok x,S1)):vB e ρ S=ar (.ok (.nx ρ),S1):=aK h
theorem bN(h:e ρ S=ar (.ok x,S1)):bx i e ρ S=ar (.ok (.nx (ρ.set i (ar x))),S1):=aK h
theorem gI(h:e ρ S=ar (.ok x,S1)):bM e ρ S=ar (.ok (.ret x),S1):=aK h
theorem eQ{us:List D}(h:us.length<=lim):bp us S=ar (.ok (.lst S.length),S++[us]):=by unfold bp;exact if_pos h
theorem ft(h:S[p]? =ar us):getL p S=ar (.ok us,S):=by unfold getL;rw[h];rfl
theorem kg{us:List D}(h:us.length<=lim)(Z:p<S.length):kG p us S=ar (.ok .non,S.set p us):=by unfold kG;exact if_pos ⟨h,Z⟩
theorem GU(X:e1 ρ=aw x)(Y:Ib x=aw ())(Z:e2 ρ=c):uS f e1 e2 ρ=c>>=λy=>f x [y]:=by unfold uS;rw[X,aj,Y,aj,Z,gx];rfl
theorem sF(h:e ρ S=ar (.ok x,S1)):cm F e ρ S=F [x] S1:=by unfold cm az;rw[aK (a:=[x]) (S1:=S1)];show(e ρ>>=_) S=_;rw[aK h];rfl
theorem um(Y:e1 ρ S=ar (.ok x,S1))(Z:e2 ρ S1=ar (.ok y,S2)):jJ (ae e1 (ae e2 aq)) ρ S=ar (.ok (.tup [x,y]),S2):=by
 unfold jJ;rw[aK (a:=[x,y]) (S1:=S2)]
 ·unfold cW;rw[if_pos (show[x,y].length<=lim from ui)];rfl
 ·show(e1 ρ>>=_) S=_;rw[aK Y];show(((e2 ρ>>=_)>>=_):M (List D)) S1=_;rw[aK (a:=[y]) (S1:=S2)]
  ·rfl
  ·rw[aK Z];rfl
end
theorem jj:fc ⟨its,.none⟩ g b [] ρ=aw (.nx ρ):=by unfold fc;rw[cM];rfl
theorem iu{g:nE}{b:du}(h:g d ρ=aw ρ1)(Z:b ρ1 S=ar (.ok (.nx ρ2),S1)):fc ⟨its,.none⟩ g b (d::ds) ρ S=fc ⟨its,.none⟩ g b ds ρ2 S1:=by rw[fc,cM,aj,h,aj,aK Z]
theorem fK{m:du}{ds:List D}(h:m (ds.map ar++k_ (N - n) none) S=ar (.ok o,S1))(Z:outD o=aw d)(Y:ds.length=n:=by rfl):mn N n m ds S=ar (.ok d,S1):=by
 unfold mn rZ;rw[if_pos Y,aK (a:=o) (S1:=S1),Z]
 ·rfl
 ·show oa (m _) S=_;unfold oa;rw[h]
theorem m5{mi:aI->M Iter}(Z:mi ρ=aw ⟨its,.none⟩)(h:fc ⟨its,.none⟩ g b its ρ S=ar (.ok o,S1)):kz mi g b ρ S=ar (.ok o,S1):=by unfold kz;rw[Z,aj];exact h
theorem Ni:jv (.int i) (.int i)=aw (.bl c_):=bH λS=>eq_int.mpr ⟨by rw[NJ rfl],rfl⟩
theorem Nj:jv (.bl b) (.bl b)=aw (.bl c_):=bH λS=>K7.mpr ⟨by rw[beq_self_eq_true],rfl⟩
theorem MZ:gU (.bl b) (.bl b)=aw (.bl dr):=bH λS=>by unfold gU;refine(eP m3 m3).mpr ⟨?_,rfl⟩;cases b<;>rfl
theorem Nk:gU (.int i) (.int i)=aw (.bl dr):=bH λS=>by unfold gU;refine(eP jh jh).mpr ⟨?_,rfl⟩;simp[g8]
theorem uo{bs:List Bool}:pD [.fz (bs.map D.bl)]=aw (.bl (bs.all id)):=by show(match boolsOf (bs.map D.bl)with|some bs=>(aw (D.bl (bs.all id)):M D)|none=>M.fail)=_;rw[vW]
theorem vX:∀{xs:List D},d∈(xs.zip xs).map (λp:D×D=>D.tup [p.1,p.2])->∃x∈xs,d= .tup [x,x]
 | x::r,h=>by
  rw[QO,NI,NB]at h;rcases h with rfl|h
  ·exact⟨x,.head _,rfl⟩
  ·obtain⟨y,Z,e⟩:=vX h;exact⟨y,.tail _ Z,e⟩
theorem aR{e:TM}{es:aI->M (List D)}(Y:e ρ=aw x)(Z:es ρ=aw ys):ae e es ρ=aw (x::ys):=by unfold ae;rw[Y,aj,Z];rfl
theorem vY{g:nE}{t:aI->M Bool}{m:TM}(R:aI->Prop)(q:D->Bool):∀(items:List D) (ρ:aI),R ρ->(∀d∈items,∀ ρ,R ρ->∃Z,g d ρ=aw Z/\R Z/\t Z S=ar (.ok (q d),S)/\m Z=aw d)->
  cy ⟨its,.none⟩ g t m items ρ S=ar (.ok (items.filter q),S)
 |[],ρ,_,_=>by unfold cy;rw[cM];rfl
 |d::ds,ρ,hR,hb=>by
  obtain⟨Z,e1,Y,e2,U⟩:=hb d (NM ..) ρ hR;have X:=vY (its:=its) R q ds Z Y λx W=>hb x (NF _ W);unfold cy;rw[cM,aj,e1,aj,aK e2];cases hq:q d with
  |true=>rw[P3 hq,if_pos rfl,U,aj,aK X];rfl
  |false=>rw[P4 (by rw[hq];decide),if_neg (by decide),X]
section
variable {e1 e2:TM}{f:D->D->M D}{x y:D}{S S1 S2:aB}{ρ:aI}{F:List D->M D}
theorem gi(Y:e1 ρ S=ar (.ok x,S1))(Z:e2 ρ S1=ar (.ok y,S2)):aP f e1 e2 ρ S=f x y S2:=by unfold aP;rw[aK Y,aK Z]
theorem cH{es:aI->M (List D)}(Y:e1 ρ S=ar (.ok x,S1))(Z:es ρ S1=ar (.ok ys,S2)):ae e1 es ρ S=ar (.ok (x::ys),S2):=by unfold ae;rw[aK Y,aK Z];rfl
theorem GV(h:S[p]? =ar us)(Z:iI us j=ar x):cz (.lst p) (.int j) S=ar (.ok x,S):=by show(getL p>>=λxs=>match iI xs j with|some d=>(aw d:M D)|none=>M.fail) S=_;rw[aK (ft h),Z];rfl
theorem uq{es:aI->M (List D)}(h:es ρ S=ar (.ok ys,S1))(Z:ys.length<=lim):bb es ρ S=ar (.ok (.lst S1.length),S1++[ys]):=by unfold bb;rw[aK h];exact eQ Z
end
end W
namespace S7
open PySem PySem.Spec PyProof.Rows L2 S3
section
variable {X:Cx}{E:XD}{scope:Scope}{Nc:List Str}{js:List (Option Nat)}{elt tg iter:Expr}{ifs:List Expr}{pos:Pos}{mi:S3.aI->M Iter}{g:nE}{t:S3.aI->M Bool}{m:TM}
end
end S7
namespace W
open PySem PySem.Spec PyProof.Rows L2 S3 S4 S7
section
variable {α:Type}{l:List α}{mk f:α->D}{mi:aI->M Iter}{g:nE}{t:i4}{m:TM}{ρ:aI}{js:List (Option Nat)}{its:List D}
theorem CV(R:aI->Prop)(q:α->Bool):∀(l:List α) (ρ:aI),R ρ->(∀a∈l,∀ ρ,R ρ->∃Z,g (mk a) ρ=aw Z/\R Z/\t Z=aw (q a)/\(q a=c_->m Z=aw (f a)))->cy ⟨its,.none⟩ g t m (l.map mk) ρ=aw ((l.filter q).map f)
 |[],ρ,_,_=>by unfold cy;rw[cM];rfl
 |a::l,ρ,hR,h=>by
  obtain⟨Z,X,S,W,U⟩:=h a (.head _) ρ hR;have T:=CV R q l Z S λb Y=>h b (.tail _ Y);rw[NI];unfold cy;rw[cM,aj,X,aj,W,aj,T];cases hq:q a with
  |true=>rw[P3 hq,if_pos rfl,U hq,aj];rfl
  |false=>rw[P4 (by rw[hq];decide),if_neg (by decide)]
theorem CY(R:aI->Prop)(q:α->Bool)(X:mi ρ=aw ⟨l.map mk,.none⟩)(Y:l.length<=lim)(W:R (ky js ρ))(Z:∀a∈l,∀ ρ,R ρ->∃ ρ1,g (mk a) ρ=aw ρ1/\R ρ1/\t ρ1=aw (q a)/\(q a=c_->m ρ1=aw (f a))):
  bF mi g t m js ρ=bp ((l.filter q).map f):=by
 unfold bF;rw[X,aj];unfold fN;rw[if_pos (by show(l.map mk).length<=lim;rw[Nt];exact Y)];show(cy _ g t m (l.map mk) _>>=_)=_;rw[CV R q l _ W Z,aj]
theorem CZ(R:aI->Prop)(q:α->Bool)(W:mi ρ=aw ⟨l.map mk,.none⟩)(Z:l.length<=lim)(U:R (ky js ρ))(Y:∀a∈l,∀ ρ,R ρ->∃ ρ1,g (mk a) ρ=aw ρ1/\R ρ1/\t ρ1=aw (q a)/\(q a=c_->m ρ1=aw (f a)))
  (X:cn 0 ((l.filter q).map f)=c_):aH (bF mi g t m js) ρ=aw (.fz ((l.filter q).map f)):=by
 unfold aH;rw[CY R q W Z U Y];exact bJ X (by rw[Nt];exact Nz (Py _ _) Z)
theorem C0(R:aI->Prop)(q:α->Bool)(W:mi ρ=aw ⟨l.map mk,.none⟩)(Z:l.length<=lim)(U:R (ky js ρ))(Y:∀a∈l,∀ ρ,R ρ->∃ ρ1,g (mk a) ρ=aw ρ1/\R ρ1/\t ρ1=aw (q a)/\(q a=c_->m ρ1=aw (f a)))
  (X:cn 0 ((l.filter q).map f)=c_):aH (IS (bF mi g t m js)) ρ=aw (.fz ((l.filter q).map f)):=by
 unfold aH IS;rw[CY R q W Z U Y,AQ];exact bJ X (by rw[Nt];exact Nz (Py _ _) Z)
end
theorem C1{S:aB}{xs:List D}{d:D}(Z:xs.length<=1000):cI (.lst S.length) [d] (S++[xs])=ar (.ok .non,S++[xs++[d]]):=by show(getL S.length>>=λxs=>kG S.length (xs++[d])) (S++[xs])=_;rw[aK (ft (cN (S:=S) (xs:=xs))),kg (by rw[Nr];show xs.length+1<=lim;unfold lim;omega) (by simp)];rw[Pz _ _ (Nu _),Sw];rfl
theorem C3{S:aB}{xs:List D}(Z:xs.length<=lim):da [.lst S.length] (S++[xs])=ar (.ok (.tup xs),S++[xs]):=by show(getL S.length>>=cW) (S++[xs])=_;rw[aK (ft (cN (S:=S) (xs:=xs)))];unfold cW;rw[if_pos Z];rfl
theorem things{es:aI->M (List D)}{ρ:aI}{us:List D}(Z:es ρ=aw us)(Y:cn 0 us=c_)(X:us.length<=50):aH (bb es) ρ=aw (.fz us):=by show iH (es ρ>>=bp)=_;rw[Z,aj];exact bJ Y (by unfold lim;omega)
section
variable {ρ ρ':aI}{e e1 e2 e3:TM}{x y z:D}{b c:Bool}{us:List D}{m n:du}{v:D}
theorem fD{p q:i4}(Y:p ρ=aw b)(Z:b=dr->q ρ=aw c):mW p q ρ=aw (b||c):=by
 show(p ρ>>=_)=_;rw[Y];cases b with
 |true=>rfl
 |false=>exact Z rfl
theorem xN{p q:i4}(Y:p ρ=aw b)(Z:b=c_->q ρ=aw c):xw p q ρ=aw (b && c):=by
 show(p ρ>>=_)=_;rw[Y];cases b with
 |true=>exact Z rfl
 |false=>rfl
theorem not_eq{t:i4}(h:t ρ=aw b):cA t ρ=aw (!b):=by show(t ρ>>=_)=_;rw[h];rfl
theorem Nl(h:e ρ=aw (.bl b)):cA (bV e) ρ=aw (!b):=not_eq (fX h)
theorem nb(h:e ρ=aw (.bl c_)):cA (bV e) ρ=aw false:=not_eq (fX h)
theorem fE{t:i4}(h:t ρ=aw dr):iU t m dN ρ=aw (.nx ρ):=(dz h).trans (if_neg (by decide))
theorem iw{t:i4}(h:t ρ=aw c_)(Z:e ρ=aw v):iU t (bM e) dN ρ=aw (.ret v):=(dz h).trans ((if_pos rfl).trans (dX Z))
theorem C4(h:e ρ=aw (.fz us)):cm fW e ρ=aw (.int us.length):=e9 h
theorem C5(h:us.length<=1000):cW us=aw (.tup us):=by unfold cW;exact if_pos (by unfold lim;omega)
theorem C6(Y:e1 ρ=aw x)(Z:e2 ρ=aw y):jJ (ae e1 (ae e2 aq)) ρ=aw (.tup [x,y]):=by show(ae _ _ _>>=cW)=_;rw[aR Y (aR Z (es:=aq) rfl),aj];exact C5 (by show 2<=1000;decide)
theorem sG{x y z:Int}(X:e1 ρ=aw (.int x))(Y:e2 ρ=aw (.int y))(Z:e3 ρ=aw (.int z)):gG nF nF e1 e2 e3 ρ=aw (decide (x<=y) && decide (y<=z)):=by
 unfold gG;rw[X,aj,Y,aj,show nF (.int x) (.int y)=aw (.bl (decide (x<=y)))from rfl,aj,show iZ (.bl (decide (x<=y)))=aw (decide (x<=y))from rfl,aj];by_cases c:x<=y
 ·rw[NJ c,if_pos rfl,Z];rfl
 ·rw[NQ c,if_neg (by decide)];rfl
theorem qi{g:nE}(Y:e ρ=aw x)(Z:g x ρ=aw ρ'):rD e g ρ=aw (.nx ρ'):=by unfold rD;rw[Y,aj,Z];rfl
theorem vZ{t:i4}{nm s:Str}(h:t ρ=aw c_):iU t (uf nm (ae (mK (.str s)) aq)) dN ρ=M.raise (.exc nm []):=(dz h).trans ((if_pos rfl).trans rfl)
end
abbrev cp(x:Str):List Nat:=x.cps.toList
def st(l:List Nat):Str:=⟨l.toArray⟩
theorem qj{x y:Str}(h:cp x=cp y):x=y:=Str.ext' (Array.toList_inj.mp h)
theorem C7(x y:Str):cp (x++y)=cp x++cp y:=by show(x.cps++y.cps).toList=_;simp
theorem kR(l m:List Nat):st l++st m=st (l++m):=qj (by rw[C7];rfl)
theorem IZ(x:Str):x.length=(cp x).length:=by simp[Str.length]
theorem dY(l:List Nat):(st l).length=l.length:=by rw[IZ];rfl
def jn(c:List Nat):List (List Nat)->List Nat
 |[]=>[]
 |[x]=>x
 |x::r=>x++(c++jn c r)
theorem kh{c x y:List Nat}{r:List (List Nat)}:jn c (x::y::r)=x++(c++jn c (y::r)):=rfl
theorem yV(c:List Nat):∀ws:List (List Nat),Txt.join (st c) (ws.map st)=st (jn c ws)
 | ws=>by
  have go:∀ws:List (List Nat),Str.join (st c) (ws.map st)=st (jn c ws):=λws=>by
   induction ws with
   |nil=>rfl
   | cons x r ih=>
    cases r with
    |nil=>rfl
    |cons y r=>
     show st x++st c++Str.join (st c) ((y::r).map st)=_;rw[ih,kR,kR,kh,NZ]
  show Builtin.Str.glued (st c) (ws.map st)=_;rw[Qm];exact go ws
theorem v8{c:Nat}:∀{x y r s:List Nat},c∉x->c∉y->x++c::r=y++c::s->x=y/\r=s
 |[],[],r,s,_,_,h=>⟨rfl,(Oc h).2⟩
 |[],b::y,r,s,_,hy,h=>(hy (by rw[<-(Oc h).1];exact .head _)).elim
 |a::x,[],r,s,hx,_,h=>(hx (by rw[(Oc h).1];exact .head _)).elim
 |a::x,b::y,r,s,hx,hy,h=>by
  obtain⟨e1,e2⟩:=Oc h;obtain⟨Z,Y⟩:=v8 (λz=>hx (.tail _ z)) (λz=>hy (.tail _ z)) e2;exact⟨by rw[e1,Z],Y⟩
theorem xO{c:Nat}:∀{xs ys:List (List Nat)},(∀x∈xs,c∉x)->(∀y∈ys,c∉y)->xs≠[]->ys≠[]->jn [c] xs=jn [c] ys->xs=ys
 |[],_,_,_,h,_,_=>(h rfl).elim
 |_,[],_,_,_,h,_=>(h rfl).elim
 |[x],[y],_,_,_,_,h=>by rw[show x=y from h]
 |[x],y::z::r,hx,_,_,_,h=>(hx x (.head _) (by rw[show x=y++c::jn [c] (z::r)from h];simp)).elim
 |x::w::q,[y],_,hy,_,_,h=>(hy y (.head _) (by rw[<-show x++c::jn [c] (w::q)=y from h];simp)).elim
 |x::w::q,y::z::r,hx,hy,_,_,h=>by
  obtain⟨e1,e2⟩:=v8 (hx x (.head _)) (hy y (.head _)) (show x++c::jn [c] (w::q)=y++c::jn [c] (z::r)from h);rw[e1,xO (λa Z=>hx a (.tail _ Z)) (λa Z=>hy a (.tail _ Z)) (OK _ _) (OK _ _) e2]
theorem C8(x:Str)(c:Nat):Txt.split x (st [c])≠[]:=by
 unfold Txt.split;split
 ·exact OK _ _
 ·split
  ·exact OK _ _
  ·rw[StrLaws.partsBetween_eq];obtain⟨p,r,e⟩:=StrLaws.partsFrom_ne x (st [c]).length 0 (i_ x (st [c]) 0 x.length (x.length+1));rw[e];exact OK _ _
theorem v9{c:Nat}{ws:List (List Nat)}(Y:ws≠[])(h:∀w∈ws,c∉w):Txt.split (st (jn [c] ws)) (st [c])=ws.map st:=by
 have Z:=StrLaws.join_split (st (jn [c] ws)) (st [c]);have hf:=StrLaws.split_free (st (jn [c] ws)) c;have X:=C8 (st (jn [c] ws)) c;have R:Txt.split (st (jn [c] ws)) (⟨#[c]⟩:Str)=Txt.split (st (jn [c] ws)) (st [c]):=rfl;rw[R]at hf;generalize Txt.split (st (jn [c] ws)) (st [c])=ps at Z hf X;have e1:ps=(ps.map cp).map st:=by rw[N0];exact(List.map_id _).symm
 rw[<-Qm]at Z;have W:Txt.join (st [c]) ps=st (jn [c] ws):=Z;rw[e1,yV]at W;have U:jn [c] (ps.map cp)=jn [c] ws:=Of cp W;have T:=xO (λx S=>by obtain⟨p,Q,rfl⟩:=N8.mp S;exact hf p Q) h (by simpa using X) Y U;rw[e1,T]
theorem ur{c:Nat}{a b:List Nat}(h:c∉a):kC (st (a++c::b)) (st [c])=[st a,st [c],st b]:=by
 have W:(st (a++c::b)).length=a.length+(b.length+1):=by rw[dY,Nr];rfl
 have X:StrLaws.At (st (a++c::b)) (st [c]) (st (a++c::b)).length a.length:=(Re (st (a++c::b)) c a.length).mpr (by show(a++c::b)[a.length]? =ar c;simp);rcases StrLaws.occ_head (st (a++c::b)) (st [c]) 1 (Nu 1)with⟨_,hn⟩|⟨i,r,e,hi,hk⟩
 ·exact(hn _ X).elim
 ·have Y:(a++c::b)[i]? =ar c:=(Re (st (a++c::b)) c i).mp hi;have Z:i=a.length:=by
   rcases Qc i a.length with q|q|q
   ·rw[N4 q]at Y;exact(h (NU Y)).elim
   ·exact q
   ·exact(hk _ q X).elim
  subst Z;unfold kC;rw[e];have s1:kr (st (a++c::b)) 0 a.length=st a:=qj (by rw[show cp (kr (st (a++c::b)) 0 a.length)=_ from StrLaws.strSub_toList _ _ _];show((a++c::b).drop 0).take (a.length - 0)=a;simp)
  have s2:kr (st (a++c::b)) (a.length+(st [c]).length) (st (a++c::b)).length=st b:=qj (by rw[show cp (kr (st (a++c::b)) (a.length+(st [c]).length) (st (a++c::b)).length)=_ from StrLaws.strSub_toList _ _ _];rw[W,dY];show((a++c::b).drop (a.length+1)).take (a.length+(b.length+1) - (a.length+1))=b;rw[show a.length+(b.length+1) - (a.length+1)=b.length by omega,show(a++c::b).drop (a.length+1)=b by rw[<-PD,List.drop_left];rfl];exact Oe (Nu _))
  show[kr (st (a++c::b)) 0 a.length,st [c],kr (st (a++c::b)) (a.length+(st [c]).length) (st (a++c::b)).length]=_;rw[s1,s2]
theorem FL{c:Nat}{a:List Nat}(h:c∉a):kC (st a) (st [c])=[st a,st [],st []]:=by
 rcases StrLaws.occ_head (st a) (st [c]) 1 (Nu 1)with⟨e,_⟩|⟨i,r,e,hi,hk⟩
 ·unfold kC;rw[e];rfl
 ·exact(h (NU ((Re (st a) c i).mp hi))).elim
def dg(n:Nat):List Nat:=if n<10 then [48+n]else [48+n / 10,48+n % 10]
theorem I0:∀n:Nat,n<100->((L_ (n:Int):String):Str)=st (dg n):=by decide+kernel
def sH:List Nat->Option Nat
 |[a]=>if 48<=a/\a<=57 then ar (a - 48)else none
 |[a,b]=>if 49<=a/\a<=57/\48<=b/\b<=57 then ar ((a - 48)*10+(b - 48))else none
 |_=>none
theorem C9:∀n:Nat,n<100->sH (dg n)=ar n:=by decide+kernel
theorem Da:∀n:Nat,n<100->PySem.intText? (st (dg n))=ar (n:Int):=by decide+kernel
theorem m6{l:List Nat}{n:Nat}(h:sH l=ar n):n<100/\l=dg n:=by
 match l,h with
 |[a],h=>
  have h:(if 48<=a/\a<=57 then ar (a - 48)else none)=ar n:=h;split at h
  ·next c=>cases h;exact⟨by omega,by unfold dg;rw[if_pos (by omega)];congr 1;omega⟩
  ·cases h
 | [a,b],h=>
  have h:(if 49<=a/\a<=57/\48<=b/\b<=57 then ar ((a - 48)*10+(b - 48))else none)=ar n:=h;split at h
  ·next c=>
   cases h;refine⟨by omega,?_⟩;unfold dg;rw[if_neg (by omega),show 48+((a - 48)*10+(b - 48)) / 10=a by omega,show 48+((a - 48)*10+(b - 48)) % 10=b by omega]
  ·cases h
theorem Dc:∀n:Nat,n<100->∀c∈dg n,48<=c/\c<=57:=by decide+kernel
theorem eV:∀n:Nat,n<100->(dg n).length<=2:=by decide+kernel
section
variable {ρ ρ':aI}{e e1 e2 e3:TM}{x y z:D}{b c:Bool}{us:List D}{m n:du}{v:D}
theorem uu{f:D->List D->M D}{s:Str}(Y:e1 ρ=aw (.str s))(Z:e2 ρ=aw y):cF f e1 e2 ρ=f (.str s) [y]:=by show(e1 ρ>>=_)=_;rw[Y,aj,show GT (.str s)=aw ()from rfl,aj,Z];rfl
theorem eu{a b:List Nat}(Y:e1 ρ=aw (.str (st a)))(X:e2 ρ=aw (.str (st b)))(Z:a.length+b.length<=10000):aP dQ e1 e2 ρ=aw (.str (st (a++b))):=by rw[cG Y X];show(if (st a).length+(st b).length<=10000 then (aw (D.str (st a++st b)):M D)else M.fail)=_;rw[if_pos (by rw[dY,dY];exact Z),kR]
theorem join_eq{sep:List Nat}{ws:List (List Nat)}(Y:e1 ρ=aw (.str (st sep)))(Z:e2 ρ=aw (.fz (ws.map λw=>D.str (st w))))(X:(ws.map nC).sum+ws.length*sep.length<=100000):cF fC e1 e2 ρ=aw (.str (st (jn sep ws))):=by
 rw[uu Y Z];have W:(ws.map λw=>D.str (st w))=(ws.map st).map D.str:=by rw[N0];rfl
 have e1:((ws.map st).map (·.length)).sum+(ws.map st).length*(st sep).length=(ws.map nC).sum+ws.length*sep.length:=by rw[N0,Nt,dY];congr 2
 rw[W];show(match strsOf ((ws.map st).map D.str)with|some l=>if (l.map λx:Str=>x.length).sum+l.length*(st sep).length<=100000 then (aw (D.str (Txt.join (st sep) l)):M D)else M.fail|none=>M.fail)=_;rw[qe];show(if ((ws.map st).map (·.length)).sum+(ws.map st).length*(st sep).length<=100000 then (aw (D.str (Txt.join (st sep) (ws.map st))):M D)else M.fail)=_;rw[if_pos (by rw[e1];exact X),yV]
theorem m7{k:Nat}(h:e ρ=aw (.int k))(Y:k<100):cm iO e ρ=aw (.str (st (dg k))):=by
 rw[e9 h];show(if (k:Int).natAbs.log2<1920 then (aw (D.str (L_ (k:Int))):M D)else M.fail)=_;have Z:((k:Int).natAbs.log2<1920):=by rw[Int.natAbs_natCast];exact QP (Nat.log2_le_self k) (by omega)
 rw[if_pos Z,I0 k Y]
theorem GW{js:aI->M (List Str)}{l:List Str}(h:js ρ=aw l):sy js ρ=aw (.str (l.foldl (· ++·) ri)):=by show(js ρ>>=_)=_;rw[h];rfl
theorem sI{js:aI->M (List Str)}{s:Str}{l:List Str}(X:e ρ=aw (.str s))(Y:js ρ=aw l)(Z:s.length<=1000):ib e js ρ=aw (s::l):=by show(e ρ>>=_)=_;rw[X,aj,show LL (.str s)=aw s from if_pos Z,aj,Y];rfl
theorem La(l:List Nat):ri++st l=st l:=qj (by rw[C7];rfl)
theorem oH{l:List Nat}{c:Nat}{a b s:List Nat}(Z:e1 ρ=aw (.str (st l)))(W:e2 ρ=aw (.str (st [c])))(X:kC (st l) (st [c])=[st a,st s,st b])(Y:l.length<=10000):cF jN e1 e2 ρ=aw (.tup [.str (st a),.str (st s),.str (st b)]):=by rw[uu Z W];unfold jN;show(if ((st [c]).length==0)=dr/\(st l).length<=10000 then cW ((kC (st l) (st [c])).map D.str)else M.fail)=_;rw[if_pos ⟨rfl,by rw[dY];exact Y⟩,X];exact C5 (by show 3<=1000;decide)
theorem jP{l:List Nat}{c:Nat}{ws:List (List Nat)}(Y:e1 ρ=aw (.str (st l)))(Z:e2 ρ=aw (.str (st [c])))(hs:Txt.split (st l) (st [c])=ws.map st)(X:l.length<=10000)(W:ws.length<=1000):cF df e1 e2 ρ=bp (ws.map λw=>D.str (st w)):=by rw[uu Y Z];unfold df;show(if ((st [c]).length==0)=dr/\(st l).length<=10000/\(Txt.split (st l) (st [c])).length<=lim then bp ((Txt.split (st l) (st [c])).map D.str)else M.fail)=_;rw[if_pos ⟨rfl,by rw[dY];exact X,by rw[hs,Nt];unfold lim;omega⟩,hs,N0];rfl
theorem gq(ws:List (List Nat)):cn 0 (ws.map λw=>D.str (st w))=true:=by
 induction ws with
 |nil=>rfl
 |cons w r ih=>rw[NI];unfold cn;rw[ih];rfl
theorem Dd{l:List Nat}(h:∀c∈l,c<128):Sr (st l)=true:=by unfold Sr;show l.toArray.all _=c_;rw[Rp,NT];exact λc Z=>NJ (Qj (h c Z) (by decide))
theorem oI{S:aB}{k:Nat}{l:List Nat}(h:∀c∈l,c<128):gm S k (.str (st l))=ar (.str (st l)):=by cases k<;>exact if_pos (Dd h)
theorem Ja{a b:List Nat}(h:st a=st b):a=b:=Of cp h
theorem yW{a b:List Nat}:g8 (.str (st a)) (.str (st b))=decide (a=b):=by
 have:g8 (.str (st a)) (.str (st b))=(st a==st b):=by simp[g8]
 rw[this,OZ,beq_iff_eq,Od];exact⟨Ja,λh=>by rw[h]⟩
theorem MI{a b:List Nat}(Y:∀c∈a,c<128)(Z:∀c∈b,c<128):jv (.str (st a)) (.str (st b))=aw (.bl (decide (a=b))):=bH λS=>by unfold jv;exact(eP (oI Y) (oI Z)).mpr ⟨by rw[yW],rfl⟩
theorem Lc{a b:List Nat}(Y:∀c∈a,c<128)(Z:∀c∈b,c<128):gU (.str (st a)) (.str (st b))=aw (.bl (!decide (a=b))):=bH λS=>by unfold gU;exact(eP (oI Y) (oI Z)).mpr ⟨by rw[yW],rfl⟩
end
end W
section
namespace S3
open PySem PySem.Spec PyProof.Rows L2
section
variable {X:Cx}{E:XD}{e:Expr}{m:TM}{pos p2:Pos}
theorem Jb:EK X (λx lo Z H Q=>∃z,x= .str z/\z.length<=10000/\Q (.str (Txt.slice z lo Z)) H):=by
 intro pins s σ H x v vl S lo Z T Q I U hs Y pu h;obtain⟨z,rfl,W,q⟩:=h;obtain⟨t,rfl⟩:=(show ∃t,v=k8 z t from U);have part:∀{v:aC} {o:Option Int},RY v o->∃l:Option (Int×Tok),v=partValue l/\l.map (·.1)=o:=λ{v o} h=>by
  cases h with
  |none=>exact⟨none,rfl,rfl⟩
  |int i t=>exact⟨ar (i,t),rfl,rfl⟩
 obtain⟨l,rfl,rfl⟩:=part Y;obtain⟨u,rfl,rfl⟩:=part pu;refine⟨"str",_,F.slot_str_getitem.lookup,PQ _ _ _,wpAny_getItem_str_slice (l:=l) (u:=u) (st:=none) hs rfl ?_⟩;refine post_val_or_str ⟨Nz (Txt.slice_le z _ _) (Nz W IV),λt' k=>?_⟩;exact⟨.str (Txt.slice z (l.map (·.1)) (u.map (·.1))),H,I.kept (t':=k) λb o e=>e,⟨t',rfl⟩,q⟩
def yX:D->Option Int->Option Int->M D
 | .str z,lo,hi=>if z.length<=10000 then aw (.str (Txt.slice z lo hi))else M.fail
 |_,_,_=>M.fail
theorem dF{O R:Option Expr}{ml T:aI->M (Option Int)}(G:SE X E e m)(B:SO X E O ml)(F:SO X E R T):
  SE X E (.Subscript e (.Slice O R none p2) pos) (λρ=>do let x<-m ρ;let i<-ml ρ;let j<-T ρ;yX x i j):=by
 refine PE.imp (uZ Jb G B F) λσ H Q h=>?_;obtain⟨ι,S,ρ,rep,re,c⟩:=h;refine⟨ι,S,ρ,rep,re,ak (ai c) λx U S1 w e1 rep1 y v r=>?_⟩;refine⟨U,S1,ρ,rep1,re.later rep e1,ak (ai y) λi W I u e2 rep2 J=>?_⟩;refine⟨W,I,ρ,rep2,(re.later rep e1).later rep1 e2,ak (ai J) λj Y A N C rep3 P=>?_⟩;have L:=(r.later rep1 e2).later rep2 C;cases x with
 | str z=>
  have ev:v=V.str z:=by cases L;rfl
  subst ev;have Z:cont X.K E (if z.length<=10000 then aw (.str (Txt.slice z i j))else M.fail) Y A N (lg X.K Q):=P;by_cases hz:z.length<=10000
  ·rw[if_pos hz]at Z;exact⟨z,rfl,hz,ah Z .refl rep3 _ (.str _)⟩
  ·rw[if_neg hz]at Z;exact(ag Z).elim
 |_=>exact(ag P).elim
abbrev fY(m:TM)(lo hi:KM):TM:=λρ=>do let x<-m ρ;let i<-lo ρ;let j<-hi ρ;yX x i j
end
section
variable {X:Cx}{E:XD}{e o:Expr}{m n:TM}{pos:Pos}
def De:V->List V->Hp->VK->Prop:=λx vs H Q=>∃a b,x= .str a/\vs=[.str b]/\a.length<=10000/\Q (.str (Txt.stripChars a b)) H
theorem Df:Gy X "str.strip" De:=by intro pins s σ H x vs v us Q I T Y h;obtain⟨a,b,rfl,rfl,W,q⟩:=h;obtain⟨u,rfl,Z⟩:=Y.one;obtain⟨t,rfl⟩:=(show ∃t,v=k8 a t from T);obtain⟨U,rfl⟩:=(show ∃t,u=k8 b t from Z);refine call_gives F.slot_str_strip (PQ _ _ _) F.entry_str_strip (F.args_str_strip_2 _ _) (gives_str_strip_chars a b t U) (post_val_or_made (λ_=>fits_stripped _ _ _ (Nz W IV)) λt' k=>?_);exact⟨.str (Txt.stripChars a b),H,I.kept (t':=k) λb o e=>e,⟨t',rfl⟩,q⟩
def m9:D->List D->M D:=λt ds=>match t,ds with
 | .str a,[.str b]=>if a.length<=10000 then aw (.str (Txt.stripChars a b))else M.fail
 |_,_=>M.fail
theorem AR:EX X.K E m9 De:=by
 intro ι S H d ds v vs Q rep r rs c;unfold m9 at c;split at c
 ·next a b=>
  obtain⟨w,ws,rfl,Y,Z⟩:=rs.cons_inv;cases Z.nil_inv;have e1:v=V.str a:=by cases r;rfl
  have e2:w=V.str b:=by cases Y;rfl
  subst e1 e2;split at c
  ·next h=>exact⟨a,b,rfl,rfl,h,ah c .refl rep _ (.str _)⟩
  ·exact(ag c).elim
 ·exact(ag c).elim
theorem Dg{Z:Pos}(U:SE X E o m)(T:SE X E e n)(W:j7 o "strip" X.env (g6 o X.env)=g6 o X.env:=by rfl)(Y:(Z.endLine==pos.line)=true:=by rfl)(hs:dV [e] X.env=[(dr,g6 e X.env)]:=by rfl):
  SE X E (.Call (.Attribute o "strip" Z) [e] [] pos) (cF m9 m n):=uh F.slot_str_strip F.type_str_strip Df AR U T W Y hs
end
end S3
namespace W
open PySem PySem.Spec PyProof.Rows L2 S3 S4 S7
def kU(l:List Nat)(lo hi:Option Int):List Nat:=(l.drop (HT.sIx l.length 0 lo)).take (HT.sIx l.length l.length hi - HT.sIx l.length 0 lo)
theorem wa(n d:Nat)(Z:d<=n)(v:Option Int):(match v with|none=>(d:Int)|some i=>max 0 (min (if i<0 then i+(n:Int)else i) (n:Int)))=((HT.sIx n d v:Nat):Int):=by
 cases v with
 |none=>rfl
 |some i=>
  show max 0 (min (if i<0 then i+(n:Int)else i) (n:Int))=(((if i<0 then (i+(n:Int)).toNat else min i.toNat n):Nat):Int);split<;>omega
theorem yY(n d:Nat)(Z:d<=n)(v:Option Int):HT.sIx n d v<=n:=HT.sIx_le n d Z v
theorem idx_eq(Z Y:Option Int)(n:Nat):lx Z Y 1 n=(ey (HT.sIx n n Y - HT.sIx n 0 Z)).map λk=>HT.sIx n 0 Z+k:=by
 have X:=wa n 0 (NN _) Z;have U:=wa n n (Nu _) Y;have e:lx Z Y 1 n=sliceRange ((HT.sIx n 0 Z:Nat):Int) ((HT.sIx n n Y:Nat):Int) 1:=by rw[<-X, <-U];unfold lx;cases Z<;>cases Y<;>rfl
 rw[e];generalize HT.sIx n 0 Z=a;generalize HT.sIx n n Y=b;unfold sliceRange;by_cases hlt:(a:Int)<b
 ·have W:(((b:Int) - a+1 - 1) / 1).toNat=b - a:=by first|omega|(simp;done)|(simp;omega)
  simp only[hlt,if_true,W,show((1:Int)>0)=True from by simp];refine List.map_congr_left λk _=>?_;omega
 ·have:b - a=0:=by omega
  simp[hlt,this]
theorem Dh(l:List Nat)(Z Y:Option Int):Txt.slice (st l) Z Y=st (kU l Z Y):=by
 have X:(st l).length=l.length:=dY l;have a1:=yY l.length 0 (NN _) Z;have a2:=yY l.length l.length (Nu _) Y;have key:((lx Z Y 1 (st l).length).filterMap ((st l).cps[·]?))=kU l Z Y:=by rw[X,idx_eq];have h:=StrLaws.picks l (HT.sIx l.length l.length Y - HT.sIx l.length 0 Z) (HT.sIx l.length 0 Z) (by omega);unfold kU;rw[<-h];rw[show(λx=>(st l).cps[x]?)=(λx=>l[x]?)from funext λx=>by show l.toArray[x]? =l[x]?;simp]
 unfold Txt.slice;split
 ·next c=>
  have c:(lx Z Y 1 (st l).length).length=(st l).length:=by simpa using c
  rw[X,idx_eq,Nt,OD]at c;have:kU l Z Y=l:=by
   unfold kU;by_cases h0:l.length=0
   ·have:l=[]:=Ri.mp h0;subst this;simp
   ·rw[show HT.sIx l.length 0 Z=0 by omega,Pk];exact Oe (by omega)
  rw[this]
 ·rw[key];rfl
theorem Jc(l:List Nat)(i:Nat):kU l none (ar (i:Int))=l.take i:=by
 unfold kU;rw[HT.sIx_none,HT.sIx_nat,Pk,Ru];by_cases h:i<=l.length
 ·rw[QH h]
 ·rw[Qu (by omega),Oe (Nu _),Oe (by omega)]
theorem Di(l:List Nat)(i:Nat):kU l (ar (i:Int)) none=l.drop i:=by
 unfold kU;rw[HT.sIx_none,HT.sIx_nat];by_cases h:i<=l.length
 ·rw[QH h];exact Oe (by rw[NO];exact Nu _)
 ·rw[Qu (by omega),Pn (Nu _),Pn (by omega),List.take_nil]
theorem Dj(l:List Nat):kU l (ar (-1)) none=l.drop (l.length - 1):=by
 unfold kU;have:HT.sIx l.length 0 (ar (-1))=l.length - 1:=by show(if (-1:Int)<0 then ((-1:Int)+(l.length:Int)).toNat else min (-1:Int).toNat l.length)=_;rw[if_pos (by decide)];omega
 rw[this,HT.sIx_none];exact Oe (by rw[NO];exact Nu _)
theorem wb(l:List Nat):kU l none (ar (-1))=l.take (l.length - 1):=by
 unfold kU;have:HT.sIx l.length l.length (ar (-1))=l.length - 1:=by show(if (-1:Int)<0 then ((-1:Int)+(l.length:Int)).toNat else min (-1:Int).toNat l.length)=_;rw[if_pos (by decide)];omega
 rw[this,HT.sIx_none,Pk,Ru]
section
variable {ρ:aI}{e:TM}{l:List Nat}
theorem qk{Z Y:KM}{a b:Option Int}(h:e ρ=aw (.str (st l)))(W:Z ρ=aw a)(X:Y ρ=aw b)(U:l.length<=10000):fY e Z Y ρ=aw (.str (st (kU l a b))):=by show(e ρ>>=_)=_;rw[h,aj,W,aj,X,aj];show(if (st l).length<=10000 then (aw (D.str (Txt.slice (st l) a b)):M D)else M.fail)=_;rw[if_pos (by rw[dY];exact U),Dh]
end
end W
end
section
open PySem PySem.Spec PyProof.Rows L2 S3 S4 S7
theorem Dk{X:Cx}{E:XD}{es:List Expr}{b:Expr}{Z:S3.aI->M (List D)}{n:TM}{P Y pos pos':Pos}{x:Str}(i:Nat)(U:X.N.Nodup)(S:SA X E es Z)(W:SE X E b n)(Q:lB b)(R:X.N[i]? =ar x)(T:Loc X.env.scope x)(O:X.fn x=c_\/List.lookup x X.env.scope.names=ar .local):
  SS X E (.Assign [.Name x pos'] (.Subscript (.List es P) b Y) pos) (bx i (aP cz (aH (bb Z)) n)):=
 aZ i U (aU (aF (bG S)) W Q) R T gp O
end
namespace W
open PySem PySem.Spec PyProof.Rows L2 S3 S4 S7
def qm:du:=bM (pV (fq (mV 0) "int") (KL (fq (mV 0) "bool")))
def cT:List D->M D:=mn 1 1 qm
def sJ:du:=bM (pV (fq (mV 0) "tuple") (aP jv (cm fW (mV 0)) (mK (.int 2))))
def dG:List D->M D:=mn 1 1 sJ
def gJ:i4:=ma
def gK:TM:=aP tO (mV 0) (mV 1)
def nQ:du:=bM (cm pD (aH (bF (vN (mV 0) (aH (i3 (mV 0) (oS (mK (.int 1))) oN))) (fB 2 (bu (gN 0) (bu (gN 1) fV))) gJ gK [none,none])))
def fZ:List D->M D:=mn 1 1 nQ
def dh:i4:=ma
def di:TM:=aP FC (mV 0) (mK (.str "0123456789"))
def iy:du:=aG (iU (mW (cA (gG nF nF (mK (.int 1)) (cm jt (mV 0)) (mK (.int 2)))) (cA (bV (cm pD (aH (bF (AK (mV 0)) (gN 0) dh di [none])))))) (bM (mK .non)) dN) (aG (iU (xw (eF BM (cm jt (mV 0)) (mK (.int 1))) (eF jv (aP iV (mV 0) (mK (.int 0))) (mK (.str "0")))) (bM (mK .non)) dN) (bM (cm nP (mV 0))))
def bK:List D->M D:=mn 1 1 iy
def jQ:du:=aG (iU (eF tO (mV 1) (cm fW (mV 0))) (bM (aP cz (mV 0) (mV 1))) dN) (bM (mK (.int 0)))
def dZ:List D->M D:=mn 2 2 jQ
def nR:du:=aG (iU (bV (aP cz (mV 0) (mK (.int 1)))) (aG (bx 2 (aP kL (aP cz (mV 0) (mK (.int 0))) (mV 1))) (aG (rD (aP lO (aP cz (mV 0) (mK (.int 0))) (mV 1)) (LK (mV 0) (mK (.int 0)))) (bM (mV 2)))) dN) (aG (rD (aP kL (aP bB (aP tL (aP cz (mV 0) (mK (.int 0))) (mK (.int 48271))) (mK (.int 29))) (mK (.int 2147483647))) (LK (mV 0) (mK (.int 0)))) (aG (bx 3 (aP kL (aP bB (aP bB (aP tL (aP cz (mV 0) (mK (.int 0))) (aP cz (mV 0) (mK (.int 0)))) (aP tL (mK (.int 39373)) (aP cz (mV 0) (mK (.int 0))))) (mK (.int 7))) (mK (.int 2147483629)))) (aG (bx 3 (aP kL (aP bB (aP tL (mV 3) (mV 3)) (aP tL (mK (.int 16807)) (mV 3))) (mK (.int 2147483587)))) (bM (aP kL (aP lO (mV 3) (mK (.int 8))) (mV 1))))))
def ay:List D->M D:=mn 4 2 nR
def eR:i4:=ma
def eS:TM:=jJ (ae (mV 1) (ae (mV 0) aq))
def gf:du:=vB (uS lR (mV 1) (aH (bF (GL (aP bB (mV 2) (mK (.int 1))) (mV 0)) (gN 0) eR eS [none,ar 2])))
def my:du:=aG (bx 1 (bb aq)) (aG (kz (vA (mV 0)) (gN 2) gf) (bM (mV 1)))
def bq:List D->M D:=mn 3 1 my
def mz:du:=bM (pV (fq (mV 0) "int") (KL (fq (mV 0) "bool")))
def dE:List D->M D:=mn 1 1 mz
def iz:du:=aG (iU (mW (eF jv (mV 0) (mK (.str ""))) (mW (eF gU (cF m9 (mV 0) (mK (.str "0123456789"))) (mK (.str ""))) (xw (eF jv (aP iV (mV 0) (mK (.int 0))) (mK (.str "0"))) (eF gU (mV 0) (mK (.str "0")))))) (bM (mK .non)) dN) (bM (cm nP (mV 0)))
def bC:List D->M D:=mn 1 1 iz
def qo:du:=bM (pV (az cT (ae (mV 1) aq)) (ID nF tO (mK (.int 0)) (mV 1) (mV 0)))
def gL:List D->M D:=mn 2 2 qo
def jk:du:=aG (rD (cF jN (mV 0) (mK (.str "-"))) (fB 3 (bu (gN 1) (bu (gN 2) (bu (gN 3) fV))))) (bM (jJ (ae (aH (az bK (ae (mV 1) aq))) (ae (aH (az bK (ae (mV 3) aq))) aq))))
def d4:List D->M D:=mn 4 1 jk
def mB:du:=aG (bx 2 (az dZ (ae (mV 0) (ae (mV 1) aq)))) (aG (iU (eF My (mV 2) (aP BK (mK (.int 10)) (mK (.int 18)))) (bM (bb (ae (aP gT (mV 2) (aP BK (mK (.int 10)) (mK (.int 18)))) (ae (mK (.bl c_)) aq)))) dN) (bM (bb (ae (aP kL (mV 2) (mK (.int 2147483647))) (ae (mK (.bl dr)) aq)))))
def gr:List D->M D:=mn 3 2 mB
def cu:du:=vB (uS cI (mV 3) (uS mR (mV 2) (aH (az ay (ae (mV 0) (ae (cm fW (mV 2)) aq))))))
def ez:du:=aG (bx 2 (cm nG (mV 1))) (aG (bx 3 (bb aq)) (aG (IE 64 (eF gU (mV 2) (aH (bb aq))) cu) (bM (mV 3))))
def dj:List D->M D:=mn 4 2 ez
def eJ:du:=aG (bx 4 (aH (az ay (ae (mV 0) (ae (mV 1) aq))))) (aG (bx 5 (aP kL (aP bB (aP bB (mV 4) (mK (.int 1))) (aH (az ay (ae (mV 0) (ae (aP gT (mV 1) (mK (.int 1))) aq))))) (mV 1))) (vB (uS cI (mV 2) (jJ (ae (az minD (ae (mV 4) (ae (mV 5) aq))) (ae (az maxD (ae (mV 4) (ae (mV 5) aq))) aq))))))
def eA:du:=aG (bx 1 (aP bB (mK (.int 8)) (aH (az ay (ae (mV 0) (ae (mK (.int 7)) aq)))))) (aG (bx 2 (bb aq)) (aG (kz (vA (aH (az ay (ae (mV 0) (ae (mK (.int 12)) aq))))) (gN 3) eJ) (bM (jJ (ae (mV 1) (ae (cm da (aH (cm iT (mV 2)))) aq))))))
def bS:List D->M D:=mn 6 1 eA
def cB:du:=aG (iU (mW (cA (bV (fq (mV 1) "tuple"))) (mW (eF gU (cm fW (mV 1)) (mK (.int 2))) (mW (cA (bV (aH (az dE (ae (aP cz (mV 1) (mK (.int 0))) aq))))) (cA (bV (aH (az dE (ae (aP cz (mV 1) (mK (.int 1))) aq)))))))) (bM (mK (.bl dr))) dN) (iU (cA (oF nF tO tO (mK (.int 0)) (aP cz (mV 1) (mK (.int 0))) (aP cz (mV 1) (mK (.int 1))) (aP cz (mV 0) (mK (.int 0))))) (bM (mK (.bl dr))) dN)
def fP:du:=aG (iU (mW (cA (bV (fq (mV 0) "tuple"))) (mW (eF gU (cm fW (mV 0)) (mK (.int 2))) (mW (cA (bV (aH (az dE (ae (aP cz (mV 0) (mK (.int 0))) aq))))) (cA (gG nF nF (mK (.int 0)) (aP cz (mV 0) (mK (.int 0))) (mK (.int 14))))))) (bM (mK (.bl dr))) dN) (aG (iU (cA (bV (fq (aP cz (mV 0) (mK (.int 1))) "tuple"))) (bM (mK (.bl dr))) dN) (aG (kz (dM (aP cz (mV 0) (mK (.int 1)))) (gN 1) cB) (bM (aP jv (aH (cm nG (aP cz (mV 0) (mK (.int 1))))) (aH (cm iT (aP cz (mV 0) (mK (.int 1)))))))))
def dH:List D->M D:=mn 2 1 fP
def ic:du:=aG (bx 2 (aH (az ay (ae (mV 0) (ae (aP bB (cm jt (mV 1)) (mK (.int 1))) aq))))) (aG (bx 3 (mK (.str " !\"#$&'()*+,-./0123456789:;<=>?@ABCDEFGHIJKLMNOPQRSTUVWXYZ[\\]^_`abcdefghijklmnopqrstuvwxyz{|}~"))) (aG (bx 4 (aP cz (aH (bb (ae (aP iV (mV 3) (aH (az ay (ae (mV 0) (ae (mK (.int 94)) aq))))) (ae (aP iV (mK (.str "0123456 :-")) (aH (az ay (ae (mV 0) (ae (mK (.int 10)) aq))))) aq)))) (aH (az ay (ae (mV 0) (ae (mK (.int 2)) aq)))))) (aG (Fe 5 6 (ae (fY (mV 1) oN (oS (mV 2))) (ae (fY (mV 1) (oS (mV 2)) oN) aq))) (aG (bx 7 (aH (cF df (mV 1) (mK (.str " "))))) (aG (Fe 8 9 (ae (aH (az ay (ae (mV 0) (ae (cm fW (mV 7)) aq)))) (ae (aH (az ay (ae (mV 0) (ae (cm fW (mV 7)) aq)))) aq))) (aG (bx 10 (aP cz (mV 7) (mV 8))) (aG (bx 11 (aH (bb (aQ (aP dQ (mV 5) (fY (mV 6) (oS (mK (.int 1))) oN)) (aQ (aP dQ (aP dQ (mV 5) (mV 4)) (mV 6)) (aQ (aP dQ (aP dQ (mV 5) (mV 4)) (fY (mV 6) (oS (mK (.int 1))) oN)) (aQ (aP dQ (aP dQ (aP dQ (mV 5) (fY (mV 6) (oS (mK (.int 1))) (oS (mK (.int 2))))) (fY (mV 6) oN (oS (mK (.int 1))))) (fY (mV 6) (oS (mK (.int 2))) oN)) aq))))))) (aG (bx 11 (aH (aP bB (mV 11) (aH (bb (ae (cF fC (mK (.str " ")) (aH (aP bB (aH (i3 (mV 7) oN (oS (mV 8)))) (aH (i3 (mV 7) (oS (aP bB (mV 8) (mK (.int 1)))) oN))))) (ae (cF fC (mK (.str " ")) (aH (aP bB (aH (aP bB (aH (i3 (mV 7) oN (oS (mV 8)))) (aH (bb (ae (mV 10) aq))))) (aH (i3 (mV 7) (oS (mV 8)) oN))))) aq))))))) (aG (bx 12 (aH (aP bB (aH (i3 (mV 7) oN (oS (mV 8)))) (aH (i3 (mV 7) (oS (aP bB (mV 8) (mK (.int 1)))) oN))))) (aG (bx 11 (aH (aP bB (mV 11) (aH (bb (aQ (cF fC (mK (.str " ")) (aH (aP bB (aH (aP bB (aH (i3 (mV 12) oN (oS (mV 9)))) (aH (bb (ae (mV 10) aq))))) (aH (i3 (mV 12) (oS (mV 9)) oN))))) (aQ (mV 1) (aQ (aP dQ (mK (.str " ")) (mV 1)) (aQ (aP dQ (mV 1) (mK (.str " "))) aq))))))))) (bM (aP cz (mV 11) (aH (az ay (ae (mV 0) (ae (mK (.int 10)) aq))))))))))))))))
def fb:List D->M D:=mn 13 2 ic
def qp:du:=aG (iU (cA (bV (az dG (ae (mV 1) aq)))) (bM (mK (.bl dr))) dN) (aG (rD (mV 1) (fB 2 (bu (gN 2) (bu (gN 3) fV)))) (bM (pV (az gL (ae (mV 0) (ae (mV 2) aq))) (pV (az gL (ae (mV 0) (ae (mV 3) aq))) (aP tO (mV 2) (mV 3))))))
def mC:List D->M D:=mn 4 2 qp
def iA:i4:=eF tO (aH (az ay (ae (mV 1) (ae (mK (.int 8)) aq)))) (aP cz (aH (bb (ae (mK (.int 2)) (ae (mK (.int 4)) (ae (mK (.int 6)) aq))))) (aP kL (mV 2) (mK (.int 3))))
def iB:TM:=mV 0
def fQ:du:=vB (uS cI (mV 4) (cm da (aH (cm dP (aH (bb (ae (aP cz (mV 5) (mV 6)) (ae (aP cz (mV 5) (aP cz (aH (bb (aQ (aP gT (mV 6) (mK (.int 1))) (aQ (aP gT (mV 6) (mK (.int 1))) (aQ (mK (.int 0)) (aQ (aP lO (mV 6) (mK (.int 2))) aq)))))) (aP gT (mV 3) (mK (.int 3))))) aq))))))))
def eL:i4:=eF jv (aH (az ay (ae (mV 1) (ae (mK (.int 12)) aq)))) (mK (.int 0))
def eM:TM:=mV 0
def fR:i4:=eF gU (aP inD (mV 0) (mV 1)) (aP inD (mV 0) (mV 2))
def fS:TM:=mV 0
def jl:du:=aG (bx 2 (az maxD (ae (mK (.int 0)) (ae (aP gT (mV 1) (aP cz (aH (bb (aQ (mK (.int 0)) (aQ (mK (.int 0)) (aQ (mK (.int 1)) (aQ (mK (.int 0)) (aQ (mK (.int 2)) (aQ (mK (.int 1)) (aQ (mK (.int 3)) (aQ (mV 1) aq)))))))))) (aH (az ay (ae (mV 0) (ae (mK (.int 8)) aq)))))) aq)))) (aG (bx 3 (aH (az ay (ae (mV 0) (ae (mK (.int 7)) aq))))) (aG (bx 4 (bF (dM (aH (az bq (ae (mV 2) aq)))) (gN 0) iA iB [none,ar 0,ar 3])) (aG (bx 5 (aH (az dj (ae (mV 0) (ae (aH (cm eU (mV 2))) aq))))) (aG (iU (eF BM (mV 3) (mK (.int 2))) (aG (bx 4 (bb aq)) (aG (kz (GL (mK (.int 1)) (mV 2)) (gN 6) fQ) (aG (iU (xw (eF jv (mV 3) (mK (.int 4))) (eF BM (mV 2) (mK (.int 2)))) (vB (uS cI (mV 4) (cm da (aH (cm dP (aH (bb (ae (aP cz (mV 5) (mK (.int 0))) (ae (aP cz (mV 5) (aP gT (mV 2) (mK (.int 1)))) aq))))))))) dN) (aG (bx 7 (aH (bF (dM (aH (az bq (ae (mV 2) aq)))) (gN 0) eL eM [none,ar 0]))) (bx 4 (bF (dM (aH (az bq (ae (mV 2) aq)))) (gN 0) fR fS [none,ar 4,ar 7])))))) dN) (bM (jJ (ae (mV 2) (ae (cm da (aH (cm dP (mV 4)))) aq))))))))
def eX:List D->M D:=mn 8 2 jl
def eB:i4:=ma
def eE:TM:=aH (az bC (ae (mV 0) aq))
def bT:du:=aG (bx 4 (aH (bF (dM (aH (cF df (mV 3) (mK (.str "-"))))) (gN 0) eB eE [none]))) (aG (iU (mW (eF gU (cm fW (mV 4)) (mK (.int 2))) (eF inD (mK .non) (mV 4))) (bM (mK .non)) dN) (vB (uS cI (mV 2) (jJ (ae (aP cz (mV 4) (mK (.int 0))) (ae (aP cz (mV 4) (mK (.int 1))) aq))))))
def cU:du:=aG (bx 1 (aH (cF df (mV 0) (mK (.str " "))))) (aG (iU (mW (eF gU (fY (aP cz (mV 1) (mK (.int 0))) (oS (mK (.int (-1)))) oN) (mK (.str ":"))) (eF (KC id) (aH (az bC (ae (fY (aP cz (mV 1) (mK (.int 0))) oN (oS (mK (.int (-1))))) aq))) (mK .non))) (bM (mK .non)) dN) (aG (bx 2 (bb aq)) (aG (kz (dM (aH (i3 (mV 1) (oS (mK (.int 1))) oN))) (gN 3) bT) (aG (bx 5 (jJ (ae (aH (az bC (ae (fY (aP cz (mV 1) (mK (.int 0))) oN (oS (mK (.int (-1))))) aq))) (ae (cm da (mV 2)) aq)))) (bM (IC (bV (aH (az dH (ae (mV 5) aq)))) (mV 5) (mK .non)))))))
def cV:List D->M D:=mn 6 1 cU
def ie:i4:=ma
def ig:TM:=aH (az mC (ae (mV 1) (ae (mV 0) aq)))
def qt:du:=aG (iU (cA (bV (aH (az dG (ae (mV 0) aq))))) (bM (mK (.bl dr))) dN) (aG (rD (mV 0) (fB 2 (bu (gN 1) (bu (gN 2) fV)))) (aG (iU (mW (cA (bV (aH (az cT (ae (mV 1) aq))))) (mW (cA (gG nF nF (mK (.int 0)) (mV 1) (mK (.int 14)))) (cA (bV (fq (mV 2) "tuple"))))) (bM (mK (.bl dr))) dN) (bM (pV (cm pD (aH (bF (dM (mV 2)) (gN 0) ie ig [none,ar 1]))) (aH (az fZ (ae (mV 2) aq)))))))
def d5:List D->M D:=mn 3 1 qt
def qu:du:=iU (cA (bV (aH (az d5 (ae (mV 0) aq))))) (uf "NoWeb" (ae (mK (.str "this is no web")) aq)) dN
def gM:List D->M D:=rZ 1 1 qu
def fT:i4:=ma
def fU:TM:=sy (ib (mK (.str " ")) (ib (cm iO (mV 0)) (ib (mK (.str "-")) (ib (cm iO (mV 1)) xK))))
def kX:du:=aG (vB (aH (az gM (ae (mV 0) aq)))) (aG (rD (mV 0) (fB 2 (bu (gN 1) (bu (gN 2) fV)))) (bM (aP dQ (sy (ib (cm iO (mV 1)) (ib (mK (.str ":")) xK))) (cF fC (mK (.str "")) (aH (IS (bF (dM (mV 2)) (fB 2 (bu (gN 0) (bu (gN 1) fV))) fT fU [none,none])))))))
def eY:List D->M D:=rZ 3 1 kX
def dI:i4:=ma
def dJ:TM:=aH (az d4 (ae (mV 0) aq))
def gO:du:=aG (iU (cA (bV (fq (mV 0) "str"))) (uf "NoText" (ae (mK (.str "this is no text")) aq)) dN) (aG (rD (cF jN (mV 0) (mK (.str ":"))) (fB 3 (bu (gN 1) (bu (gN 2) (bu (gN 3) fV))))) (aG (bx 4 (jJ (ae (aH (az bK (ae (mV 1) aq))) (ae (cm da (aH (IS (bF (dM (aH (i3 (aH (cF df (mV 3) (mK (.str " ")))) (oS (mK (.int 1))) oN))) (gN 0) dI dJ [none])))) aq)))) (aG (iU (mW (cA (bV (aH (az d5 (ae (mV 4) aq))))) (eF gU (aH (az eY (ae (mV 4) aq))) (mV 0))) (uf "NoText" (ae (mK (.str "this is not how a web is written")) aq)) dN) (bM (mV 4)))))
def cf:List D->M D:=rZ 5 1 gO
def gQ(F:List D->M D):i4:=ma
def gR(F:List D->M D):TM:=aH (az F (ae (mV 0) (ae (mV 1) aq)))
def d6(F:List D->M D):du:=aG (iU (bV (KN (mV 1) "tuple" "list")) (aG (iU (mW (eF gU (fq (mV 0) "tuple") (fq (mV 1) "tuple")) (eF gU (fq (mV 0) "list") (fq (mV 1) "list"))) (bM (mK (.bl dr))) dN) (aG (iU (eF gU (cm fW (mV 0)) (cm fW (mV 1))) (bM (mK (.bl dr))) dN) (bM (cm pD (aH (bF (vN (mV 0) (mV 1)) (fB 2 (bu (gN 0) (bu (gN 1) fV))) (gQ F) (gR F) [none,none])))))) dN) (bM (pV (aP jv (mV 0) (mV 1)) (aP jv (fq (mV 0) "bool") (fq (mV 1) "bool"))))
def cQ:Nat->List D->M D
 |0=>λ_=>M.fail
 |n+1=>mn 2 2 (d6 (cQ n))
def ij:List D->M D:=cQ 6
def b8:i4:=bV (aP cz (mV 1) (mV 0))
def b9:TM:=mV 0
def fu(fv:D)(cc:M D):du:=aG (bx 1 (mK .non)) (aG (vJ 0 2 1 fv cc) (aG (bx 3 (bb (ae (de (mV 1) "NoWeb") (ae (de (mV 1) "NoPlace") (ae (de (mV 1) "NoPlaces") aq))))) (aG (bx 3 (aP bB (mV 3) (aH (bb (ae (de (mV 1) "NoMap") (ae (de (mV 1) "NoSharing") (ae (de (mV 1) "NoRoot") aq))))))) (aG (bx 3 (aP bB (mV 3) (aH (bb (ae (de (mV 1) "NoNumber") (ae (de (mV 1) "NotJoined") (ae (de (mV 1) "NoTie") aq))))))) (aG (bx 3 (aP bB (mV 3) (aH (bb (ae (de (mV 1) "NoText") (ae (de (mV 1) "NoLine") (ae (de (mV 1) "NoDeed") aq))))))) (aG (vB (uS cI (mV 3) (de (mV 1) "TooGreat"))) (aG (iU (cA (bV (CC (mV 1)))) (bM (mK .non)) dN) (aG (bx 4 (aH (bF (vA (mK (.int 13))) (gN 0) b8 b9 [none,ar 3]))) (bM (IC (eF jv (mV 4) (aH (bb (ae (mK (.int 12)) aq)))) (aH (aP bB (mV 4) (aH (bb (ae (nO dr (mV 1)) (ae (nO c_ (mV 1)) aq)))))) (mV 4)))))))))))
def bD:D->M D->List D->M D:=λfv cc es=>rZ 5 1 (fu fv cc) (fv::es)
def bw:M D->List D->M D:=bD (.fn 0 0 "" [] [])
def jR:i4:=ma
def jS:TM:=aP dQ (aP dQ (cm iO (mV 0)) (mK (.str "-"))) (cm iO (mV 1))
def qv:TM:=aH (az cf (ae (mV 0) aq))
def jT:du:=aG (bx 6 (aH (az cV (ae (mV 4) aq)))) (aG (iU (eF (KC id) (mV 6) (mK .non)) (iU (eF gU (aH (vK [4] aq qv bw)) (aH (bb (ae (mK (.int 9)) aq)))) (bM (mK (.bl dr))) dN) (iU (cA (bV (aH (az ij (ae (aH (az cf (ae (mV 4) aq))) (ae (mV 6) aq)))))) (bM (mK (.bl dr))) dN)) (bx 4 (aH (az fb (ae (mV 2) (ae (mV 4) aq))))))
def qw:TM:=aH (az cf (ae (mV 0) aq))
def jU:du:=aG (bx 2 (az gr (ae (mV 0) (ae (mV 1) aq)))) (aG (bx 3 (aP cz (aH (bb (ae (aH (az eX (ae (mV 2) (ae (mK (.int 7)) aq)))) (ae (aH (az bS (ae (mV 2) aq))) aq)))) (aH (az ay (ae (mV 2) (ae (mK (.int 2)) aq)))))) (aG (bx 4 (cF fC (mK (.str " ")) (aH (aP bB (aH (bb (ae (aP dQ (cm iO (aP cz (mV 3) (mK (.int 0)))) (mK (.str ":"))) aq))) (aH (bF (dM (aP cz (mV 3) (mK (.int 1)))) (fB 2 (bu (gN 0) (bu (gN 1) fV))) jR jS [none,none])))))) (aG (kz (vA (mK (.int 4))) (gN 5) jT) (aG (bx 7 (aP cz (aH (bb (aQ (mK .non) (aQ (mK (.int 7)) (aQ (mK (.tup [.str "0:"])) (aQ (aH (bb (ae (mK (.str "0:")) aq))) (aQ (mK (.bl c_)) (aQ (mK .emp) (aQ (mK (.tup [.int 0,.tup []])) aq))))))))) (aH (az ay (ae (mV 2) (ae (mK (.int 7)) aq)))))) (iU (eF gU (aH (vK [7] aq qw bw)) (aH (bb (ae (mK (.int 9)) aq)))) (bM (mK (.bl dr))) dN)))))
def Dl:du:=aG (kz (vA (az maxD (ae (mK (.int 1)) (ae (az minD (ae (cm fW (mV 0)) (ae (mK (.int 8)) aq))) aq)))) (gN 1) jU) (bM (mK (.bl c_)))
def sL:List D->M D:=mn 8 1 Dl
def uw:D->Bool
 | .int _=>c_
 |_=>dr
abbrev Dm(d:D):Prop:=Ia d=c_
def qx:D->Bool
 | .tup [_,_]=>c_
 |_=>dr
def iD(many:Int):D->Bool
 | .int i=>decide (0<=i) && decide (i<many)
 |_=>dr
def iW(many:Int):D->Bool
 | .tup [a,b]=>iD many a && (iD many b && match a,b with| .int i,.int j=>decide (i<j)|_,_=>dr)
 |_=>dr
def M0(d:D):Prop:=Dm d/\∀ds,d= .tup ds->∀x∈ds,Dm x
theorem ki(h:iD many d=c_):∃i,d= .int i/\0<=i/\i<many:=by
 cases d with
 |int i=>exact⟨i,rfl,by simpa [iD]using h⟩
 |_=>cases h
def rF:D->D->Bool
 | .tup xs,.tup ys=>match intsOf xs,intsOf ys with
  |some a,ar b=>HT.lexLt a b
  |_,_=>dr
 |_,_=>dr
def ng:List D->Bool
 |a::b::r=>rF a b && ng (b::r)
 |_=>c_
def yZ(d:D):Prop:=∃ds ns,d= .tup ds/\intsOf ds=ar ns
theorem y0:∀l:List D,((l.zip (l.drop 1)).map λp=>rF p.1 p.2).all id=ng l
 |[]=>rfl
 |[_]=>rfl
 |a::b::r=>by
  have:=y0 (b::r);simp only[J_,RR,List.zip_cons_cons,R_,Sa,id]at this⊢;rw[ng, <-this]
theorem Ld(l:List D):S3.cutD l (ar 1) none=l.drop 1:=by
 unfold S3.cutD HT.sIx;cases l with
 |nil=>rfl
 |cons a r=>simp
def Le(d:D):Prop:=Dm d/\∀ds,d= .tup ds->∀x∈ds,Dm x/\∀ts,x= .tup ts->∀t∈ts,M0 t
def iX:D->Bool
 | .tup [.int many,.tup ties]=>decide (0<=many) && (decide (many<=14) && (ties.all (iW many) && ng ties))
 |_=>dr
theorem y8(h:iW many d=c_):∃i j,d= .tup [.int i,.int j]/\0<=i/\i<j/\j<many:=by
 unfold iW at h;split at h
 ·next a b=>
  simp only[hO]at h;obtain⟨X,U,Z⟩:=h;obtain⟨i,rfl,Y,T⟩:=ki X;obtain⟨j,rfl,S,W⟩:=ki U;simp only[decide_eq_true_eq]at Z;exact⟨i,j,rfl,Y,Z,W⟩
 ·cases h
theorem AS(h:iW many d=c_):yZ d:=by obtain⟨i,j,rfl,_⟩:=y8 h;exact⟨_,[i,j],rfl,rfl⟩
section
variable {many:Int}{d:D}{ρ:aI}{e1 e2:TM}{b:Bool}{y:D}
theorem and_eq(X:e1 ρ=aw (.bl b))(Y:b=c_->e2 ρ=aw y)(Z:b=dr->y= .bl dr):pV e1 e2 ρ=aw y:=by
 unfold pV;rw[X];cases b with
 |true=>exact Y rfl
 |false=>rw[Z rfl];rfl
theorem MJ{a b:Int}:jv (.int a) (.int b)=aw (.bl (decide (a=b))):=bH λS=>eq_int.mpr ⟨rfl,rfl⟩
theorem ux(h:Dm d):cT [d]=aw (.bl (uw d)):=by cases d<;>first|rfl|cases h
theorem uy(h:Dm d):dG [d]=aw (.bl (qx d)):=by
 cases d with
 |tup ds=>
  refine cS (dX (and_eq (b:=c_) rfl (λ_=>(cG (y:=.int 2) (e9 (x:=.tup ds) rfl) rfl).trans MJ) (λe=>by cases e))) ?_;show aw (D.bl (decide ((ds.length:Int)=2)))=_
  match ds with
  |[]=>rfl
  |[_]=>rfl
  |[_,_]=>rfl
  |_::_::_::r=>rw[NQ (by simp only[ra];omega)];rfl
 |_=>first|rfl|cases h
theorem y9(h:Dm d):gL [.int many,d]=aw (.bl (iD many d)):=by
 cases d with
 |int i=>
  refine cS (dX (and_eq (b:=c_) ((b7 rfl).trans (ux h)) (λ_=>?_) (λe=>by cases e))) rfl;show(if decide (0<=i)=c_ then (aw (D.bl (decide (i<many))):M D)else aw (.bl dr))=aw (.bl (decide (0<=i) && decide (i<many)));by_cases h0:0<=i
  ·rw[if_pos (NJ h0),NJ h0,Pf]
  ·rw[if_neg (by rw[Od];exact h0),NQ h0,Pj]
 |_=>first|rfl|cases h
theorem zb(h:qx d=c_):∃a b,d= .tup [a,b]:=by
 unfold qx at h;split at h
 ·exact⟨_,_,rfl⟩
 ·cases h
theorem uz{b:D}:iW many (.tup [a,b])=(iD many a && (iD many b && match a,b with| .int i,.int j=>decide (i<j)|_,_=>dr)):=rfl
theorem Jd(h:M0 d):mC [.int many,d]=aw (.bl (iW many d)):=by
 by_cases hp:qx d=c_
 ·obtain⟨a,b,rfl⟩:=zb hp;have W:Dm a:=h.2 _ rfl a (.head _);have X:Dm b:=h.2 _ rfl b (.tail _ (.head _));refine cS (o:=.ret (.bl (iW many (.tup [a,b])))) ?_ rfl;unfold qp;have Y:cA (bV (az dG (ae (mV 1) aq))) [ar (.int many),ar (.tup [a,b]),none,none]=aw false:=by
   show(bV _ _>>=_)=_;rw[fX ((b7 rfl).trans (uy h.1))];rfl
  refine(aS (ρ':=[ar (.int many),ar (.tup [a,b]),none,none]) ((dz Y).trans (if_neg (by decide)))).trans ((aS (ρ':=[ar (.int many),ar (.tup [a,b]),ar a,ar b]) rfl).trans (dX ?_));refine and_eq (b:=iD many a) ((call2 rfl rfl).trans (y9 W)) (λk1=>and_eq (b:=iD many b) ((call2 rfl rfl).trans (y9 X)) (λk2=>?_) λk2=>?_) λk1=>?_
  ·obtain⟨i,rfl,_⟩:=ki k1;obtain⟨j,rfl,_⟩:=ki k2;rw[uz,k1,k2];rfl
  ·rw[uz,k2,Pj,QV]
  ·rw[uz,k1,Pj]
 ·have Z:qx d=false:=by rw[<-Pi];exact hp
  have Y:cA (bV (az dG (ae (mV 1) aq))) [ar (.int many),ar d,none,none]=aw true:=by show(bV _ _>>=_)=_;rw[fX ((b7 rfl).trans (uy h.1)),Z];rfl
  refine(cS (o:=.ret (.bl dr)) (cO ((dz Y).trans (if_pos rfl))) rfl).trans ?_;unfold iW;split
  ·cases hp rfl
  ·rfl
theorem Je{a b:D}(Y:yZ a)(Z:yZ b):tO a b=aw (.bl (rF a b)):=by obtain⟨xs,ns,rfl,e1⟩:=Y;obtain⟨ys,ms,rfl,e2⟩:=Z;simp only[tO,e1,e2,rF]
def M1:D->D
 | .tup [a,b]=>.bl (rF a b)
 |_=>.non
theorem Dn(h:∀t∈ts,yZ t)(W:ts.length<=1000):fZ [.tup ts]=aw (.bl (ng ts)):=by
 have em:(((ts.zip (ts.drop 1)).map λp:D×D=>D.tup [p.1,p.2]).filter λ_=>c_).map M1=((ts.zip (ts.drop 1)).map λp=>rF p.1 p.2).map D.bl:=by rw[cq,N0,N0];rfl
 have hs:aH (i3 (mV 0) (oS (mK (.int 1))) oN) [ar (.tup ts)]=aw (.tup (ts.drop 1)):=by refine lh (?_ :cW (S3.cutD ts (ar 1) none)=_);rw[Ld];unfold cW;exact if_pos (by rw[NO];unfold lim;omega)
 have X:vN (mV 0) (aH (i3 (mV 0) (oS (mK (.int 1))) oN)) [ar (.tup ts)]=aw ⟨(ts.zip (ts.drop 1)).map λp:D×D=>D.tup [p.1,p.2],.none⟩:=by unfold vN;rw[aR (x:=.tup ts) rfl (aR hs rfl)];rfl
 have Z:=mx (g:=fB 2 (bu (gN 0) (bu (gN 1) fV))) (t:=gJ) (m:=gK) (js:=[none,none]) (λρ=>∃x y,ρ=[x,y]) (λ_=>c_) M1 X (by rw[Nt,List.length_zip];unfold lim;omega) ⟨none,none,rfl⟩
  (λd hd ρ ⟨x,y,hρ⟩=>by subst hρ;obtain⟨⟨a,b⟩,Y,rfl⟩:=N8.mp hd;exact⟨_,rfl,⟨_,_,rfl⟩,rfl,λ_=>(cG (x:=a) (y:=b) rfl rfl).trans (Je (h a (PV Y).1) (h b (Ob (PV Y).2)))⟩) (by rw[em];exact uk _)
 rw[em]at Z;refine cS (dX ((e9 Z).trans uo)) ?_;rw[y0];rfl
theorem xP(h:Le d)(U:∀m ts,d= .tup [m,.tup ts]->ts.length<=1000):d5 [d]=aw (.bl (iX d)):=by
 by_cases hp:qx d=c_
 ·obtain⟨a,t,rfl⟩:=zb hp;obtain⟨L,_⟩:=h.2 _ rfl a (.head _);obtain⟨Q,S⟩:=h.2 _ rfl t (.tail _ (.head _));refine cS (o:=.ret (.bl (iX (.tup [a,t])))) ?_ rfl;unfold qt;have R:cA (bV (aH (az dG (ae (mV 0) aq)))) [ar (.tup [a,t]),none,none]=aw false:=by
   show(bV _ _>>=_)=_;rw[fX (lh ((b7 rfl).trans (uy h.1)))];rfl
  refine(aS (ρ':=[ar (.tup [a,t]),none,none]) ((dz R).trans (if_neg (by decide)))).trans ((aS (ρ':=[ar (.tup [a,t]),ar a,ar t]) rfl).trans ?_);have hw:cA (bV (aH (az cT (ae (mV 1) aq)))) [ar (.tup [a,t]),ar a,ar t]=aw (!uw a):=by show(bV _ _>>=_)=_;rw[fX (lh ((b7 rfl).trans (ux L)))];rfl
  have X:∀{p q:i4} {b:Bool} {ρ:aI},p ρ=aw b->mW p q ρ=if b=c_ then aw c_ else q ρ:=λ{p q b ρ} e=>by show(p ρ>>=_)=_;rw[e];rfl
  have no:∀{q:i4},mW (cA (bV (aH (az cT (ae (mV 1) aq))))) q [ar (.tup [a,t]),ar a,ar t]=aw c_->aG (iU (mW (cA (bV (aH (az cT (ae (mV 1) aq))))) q) (bM (mK (.bl dr))) dN) (bM (pV (cm pD (aH (bF (dM (mV 2)) (gN 0) ie ig [none,ar 1]))) (aH (az fZ (ae (mV 2) aq))))) [ar (.tup [a,t]),ar a,ar t]=aw (.ret (.bl dr)):=λe=>cO ((dz e).trans (if_pos rfl));by_cases ew:uw a=c_
  ·cases a with
   | int many=>
    rw[ew]at hw;have W:cA (gG nF nF (mK (.int 0)) (mV 1) (mK (.int 14))) [ar (.tup [.int many,t]),ar (.int many),ar t]=aw (!(decide (0<=many) && decide (many<=14))):=by
     show(((if decide (0<=many)=c_ then (aw (D.bl (decide (many<=14))):M D)else aw (.bl dr))>>=iZ)>>=_)=_;by_cases h0:0<=many
     ·rw[if_pos (NJ h0),NJ h0,Pf];rfl
     ·rw[if_neg (by rw[Od];exact h0),NQ h0,Pj];rfl
    by_cases hr:(decide (0<=many) && decide (many<=14))=c_
    ·rw [hr]at W;cases t with
     | tup ts=>
      have O:=U _ ts rfl;have N:mW (cA (bV (aH (az cT (ae (mV 1) aq))))) (mW (cA (gG nF nF (mK (.int 0)) (mV 1) (mK (.int 14)))) (cA (bV (fq (mV 2) "tuple")))) [ar (.tup [.int many,.tup ts]),ar (.int many),ar (.tup ts)]=aw false:=by rw[X hw,if_neg (by decide),X W,if_neg (by decide)];rfl
      refine(aS ((dz N).trans (if_neg (by decide)))).trans (dX ?_);have em:(ts.filter λ_=>c_).map (λd=>D.bl (iW many d))=(ts.map (iW many)).map D.bl:=by rw[cq,N0];rfl
      have hm:=mx (mi:=dM (mV 2)) (ρ:=[ar (.tup [.int many,.tup ts]),ar (.int many),ar (.tup ts)]) (g:=gN 0) (t:=ie) (m:=ig) (js:=[none,ar 1]) (its:=ts) (λρ=>∃x,ρ=[x,ar (.int many)]) (λ_=>c_) (λd=>.bl (iW many d)) rfl (by unfold lim;omega) ⟨none,rfl⟩
       (λd hd ρ ⟨x,hρ⟩=>by subst hρ;exact⟨_,rfl,⟨_,rfl⟩,rfl,λ_=>lh ((call2 (x:=.int many) (y:=d) rfl rfl).trans (Jd (S ts rfl d hd)))⟩) (by rw[em];exact uk _)
      rw[em]at hm;have T:(ts.map (iW many)).all id=ts.all (iW many):=by rw[Qk];rfl
      have Y:iX (.tup [.int many,.tup ts])=(ts.all (iW many) && ng ts):=by show(decide (0<=many) && (decide (many<=14) && (ts.all (iW many) && ng ts)))=_;rw[<-Rw,hr,Pf]
      rw[Y];refine and_eq (b:=ts.all (iW many)) ((e9 hm).trans (uo.trans (by rw[T]))) (λZ=>?_) λZ=>by rw[Z];rfl
      rw[Z,Pf];exact lh ((b7 rfl).trans (Dn (λt Q=>AS (NT.mp Z t Q)) O))
     |_=>first|exact no (by rw[X hw,if_neg (by decide),X W,if_neg (by decide)];rfl)|cases Q
    ·have Y:iX (.tup [.int many,t])=false:=by
      cases t<;>first|rfl|(show(decide (0<=many) && (decide (many<=14) && _))=dr;rw[<-Rw,Pi _ |>.mp hr,Pj])
     rw[Y];rw[Pi _ |>.mp hr]at W;exact no (by rw[X hw,if_neg (by decide),X W];rfl)
   |_=>cases ew
  ·have Y:iX (.tup [a,t])=false:=by cases a<;>first|rfl|exact absurd rfl ew
   rw[Y];exact no (by rw[X hw,Pi _ |>.mp ew];rfl)
 ·have P:qx d=false:=by rw[<-Pi];exact hp
  have R:cA (bV (aH (az dG (ae (mV 0) aq)))) [ar d,none,none]=aw true:=by show(bV _ _>>=_)=_;rw[fX (lh ((b7 rfl).trans (uy h.1))),P];rfl
  refine(cS (o:=.ret (.bl dr)) (cO ((dz R).trans (if_pos rfl))) rfl).trans ?_;unfold iX;split
  ·cases hp rfl
  ·rfl
end
def eN(S:aB)(k:Nat):Prop:=∃st b,S[k]? =ar [.int st,.bl b]/\0<=st/\(b=dr->st<2147483647)
theorem eN.lt{S:aB}{k:Nat}(h:eN S k):k<S.length:=let ⟨_,_,e,_⟩:=h;(Nx.mp e).1
theorem GX{t:i4}{m n:du}{ρ:aI}{b:Bool}{S S1:aB}(h:t ρ S=ar (.ok b,S1)):iU t m n ρ S=if b=c_ then m ρ S1 else n ρ S1:=by show(t ρ>>=λc=>if c=c_ then m ρ else n ρ) S=_;rw[aK h];split<;>rfl
section
variable {S:aB}{k:Nat}{st x y many:Int}{b:Bool}{r:List (Option D)}{e1 e2:TM}{ρ:aI}
theorem FM(e:S[k]? =ar [.int st,.bl b]):aP cz (mV 0) (mK (.int 0)) (ar (.lst k)::r) S=ar (.ok (.int st),S):=GV e rfl
theorem ir(Y:e1 ρ S=ar (.ok (.int x),S))(Z:e2 ρ S=ar (.ok (.int y),S))(h:0<y):aP kL e1 e2 ρ S=ar (.ok (.int (x % y)),S):=
 (gi Y Z).trans (NX (if_pos h:(if 0<y then (aw (D.int (x % y)):M D)else M.fail)=_) S)
theorem qy(Y:e1 ρ S=ar (.ok (.int x),S))(Z:e2 ρ S=ar (.ok (.int y),S))(h:wN x y):aP tL e1 e2 ρ S=ar (.ok (.int (x*y)),S):=
 (gi Y Z).trans (NX (if_pos h:(if wN x y then (aw (D.int (x*y)):M D)else M.fail)=_) S)
theorem Do(Y:e1 ρ S=ar (.ok (.int x),S))(Z:e2 ρ S=ar (.ok (.int y),S))(h:zV x y):aP lO e1 e2 ρ S=ar (.ok (.int (x / y)),S):=
 (gi Y Z).trans (NX (if_pos h:(if zV x y then (aw (D.int (x / y)):M D)else M.fail)=_) S)
theorem uA(Y:e1 ρ S=ar (.ok (.int x),S))(Z:e2 ρ S=ar (.ok (.int y),S)):aP bB e1 e2 ρ S=ar (.ok (.int (x+y)),S):=(gi Y Z).trans rfl
theorem Lf(e:S[k]? =ar [.int st,.bl b])(h:e1 (ar (.lst k)::r) S=ar (.ok (.int x),S)):rD e1 (LK (mV 0) (mK (.int 0))) (ar (.lst k)::r) S=ar (.ok (.nx (ar (.lst k)::r)),S.set k [.int x,.bl b]):=by
 have Y:jE (.lst k) (.int 0) (.int x) S=ar (.ok (),S.set k [.int x,.bl b]):=by show(getL k>>=_) S=_;rw[aK (ft e)];exact aK (kg (us:=[.int x,.bl b]) ui (Nx.mp e).1)
 have Z:LK (mV 0) (mK (.int 0)) (.int x) (ar (.lst k)::r) S=ar (.ok (ar (.lst k)::r),S.set k [.int x,.bl b]):=aK Y;show(e1 _>>=_) S=_;rw[aK h];exact aK Z
theorem qz{m n:du}{d:D}{S1:aB}(h:m ρ S=ar (.ok (.ret d),S1)):aG m n ρ S=ar (.ok (.ret d),S1):=aK h
end
theorem Jf{S:aB}{k:Nat}{many:Int}{Q:D->aB->Prop}(hs:eN S k)(Y:0<many)(L:many<1073741824)
  (T:∀j S',0<=j->j<many->S'.length=S.length->(∀i,i≠k->S'[i]? =S[i]?)->eN S' k->Q (.int j) S'):runs (ay [.lst k,.int many]) S Q:=by
 have W:=hs.lt;obtain⟨st,b,e,N,P⟩:=hs;have q:∀x:Int,0<=x % many/\x % many<many:=λx=>⟨Pr _ (by omega),O4 _ Y⟩;have U:bV (aP cz (mV 0) (mK (.int 1))) [ar (.lst k),ar (.int many),none,none] S=ar (.ok b,S):=aK (GV (x:=.bl b) e rfl);have Z:∀(ys:List D) i,i≠k->(S.set k ys)[i]? =S[i]? :=λys i O=>Ou (j' O);cases b with
 |true=>
  refine⟨_,_,fK (o:=.ret (.int (st % many))) (S1:=S.set k [.int (st / many),.bl c_]) ?_ rfl,T _ _ (q _).1 (q _).2 (by simp) (Z _) ⟨_,c_,N9 W,Int.ediv_nonneg N (by omega),λz=>by cases z⟩⟩;exact qz ((GX U).trans ((aL (bN (ir (FM e) rfl Y))).trans ((aL (Lf e (Do (FM e) rfl ⟨Y,L⟩))).trans (gI rfl))))
 |false=>
  have I:=P rfl;generalize hst:(st*48271+29) % 2147483647=st';have s1:0<=st':=by rw[<-hst];exact Pr _ (by decide)
  have s2:st'<2147483647:=by rw[<-hst];exact O4 _ (by decide)
  have e1:(S.set k [.int st',.bl dr])[k]? =ar [.int st',.bl dr]:=N9 W;have R:=Lf (r:=[ar (.int many),none,none]) e (ir (uA (qy (FM e) (e2:=mK (.int 48271)) rfl (.inr ⟨by decide,by decide⟩)) (e2:=mK (.int 29)) rfl) (e2:=mK (.int 2147483647)) rfl (by decide));rw[hst]at R;have X:∀r,aP kL (aP bB (aP bB (aP tL (aP cz (mV 0) (mK (.int 0))) (aP cz (mV 0) (mK (.int 0)))) (aP tL (mK (.int 39373)) (aP cz (mV 0) (mK (.int 0))))) (mK (.int 7))) (mK (.int 2147483629)) (ar (.lst k)::r) (S.set k [.int st',.bl dr])=_:=λr=>ir (uA (uA (qy (FM e1) (FM e1) (.inl ⟨by omega,by omega⟩)) (qy rfl (FM e1) (.inl ⟨by decide,by decide⟩))) rfl) rfl (by decide);generalize hx:(st'*st'+39373*st'+7) % 2147483629=x at X;have K:0<=x:=by rw[<-hx];exact Pr _ (by decide)
  have J:x<2147483629:=by rw[<-hx];exact O4 _ (by decide)
  refine⟨_,_,fK (o:=.ret (.int ((x*x+16807*x) % 2147483587 / 8 % many))) (S1:=S.set k [.int st',.bl dr]) ?_ rfl,T _ _ (q _).1 (q _).2 (by simp) (Z _) ⟨_,dr,e1,s1,λ_=>s2⟩⟩;exact(aL (GX U)).trans ((aL R).trans ((aL (bN (X _))).trans ((aL (bN (ir (uA (qy rfl rfl (.inl ⟨by omega,by omega⟩)) (qy rfl rfl (.inl ⟨by decide,by decide⟩))) rfl (by decide)))).trans (gI (ir (Do rfl rfl ⟨by decide,by decide⟩) rfl Y)))))
theorem Jg{S:aB}{ns:List Int}{k:Nat}:∃i,dZ [.ro (ns.map D.int),.int k] S=ar (.ok (.int i),S):=by
 have Z:eF tO (mV 1) (cm fW (mV 0)) [ar (.ro (ns.map D.int)),ar (.int k)]=aw (decide ((k:Int)<(ns.map D.int).length)):=bY (x:=.int k) (y:=.int (ns.map D.int).length) rfl rfl rfl;by_cases h:k<ns.length
 ·refine⟨ns[k],fK (o:=.ret (.int ns[k])) (qz ((NX ((dz Z).trans (if_pos (NJ (by rw[Nt];omega)))) S).trans (gI (x:=.int ns[k]) (S1:=S) ?_))) rfl⟩;have e:iI (ns.map D.int) (k:Int)=ar (.int ns[k]):=by
   unfold iI wV;simp[h]
  show(match iI (ns.map D.int) k with|some d=>(aw d:M D)|none=>M.fail) S=_;rw[e];rfl
 ·exact⟨0,fK (o:=.ret (.int 0)) (NX ((aS ((dz Z).trans (if_neg (by rw[Od,Nt];omega)))).trans rfl) S) rfl⟩
theorem FN{S:aB}{ns:List Int}{k:Nat}{Q:D->aB->Prop}(X:∀xs,eN (S++[xs]) S.length->Q (.lst S.length) (S++[xs])):runs (gr [.ro (ns.map D.int),.int k]) S Q:=by
 obtain⟨c,U⟩:=Jg (S:=S) (ns:=ns) (k:=k);have Y:bx 2 (az dZ (ae (mV 0) (ae (mV 1) aq))) [ar (.ro (ns.map D.int)),ar (.int k),none] S=ar (.ok (.nx [ar (.ro (ns.map D.int)),ar (.int k),ar (.int c)]),S):=bN (x:=.int c) (by rw[call2 (x:=.ro (ns.map D.int)) (y:=.int k) rfl rfl];exact U);have W:∀ ρ,aP BK (mK (.int 10)) (mK (.int 18)) ρ=aw (.int 1000000000000000000):=λρ=>(cG (x:=.int 10) (y:=.int 18) rfl rfl).trans (if_pos (e:=M.fail) (show EC 10 18 from⟨by decide,by decide,by decide⟩));have Z:eF My (mV 2) (aP BK (mK (.int 10)) (mK (.int 18))) [ar (.ro (ns.map D.int)),ar (.int k),ar (.int c)]=aw (decide (1000000000000000000<=c)):=bY (x:=.int c) rfl (W _) rfl;by_cases h:1000000000000000000<=c
 ·exact⟨_,_,fK (o:=.ret (.lst S.length)) ((aL Y).trans (qz ((NX ((dz Z).trans (if_pos (NJ h))) S).trans (gI (uq (ys:=[.int (c - 1000000000000000000),.bl c_]) (cH (S1:=S) (NX ((cG (x:=.int c) rfl (W _)).trans rfl) S) (cH rfl rfl)) ui))))) rfl,X _ ⟨_,c_,cN,by omega,λz=>by cases z⟩⟩
 ·exact⟨_,_,fK (o:=.ret (.lst S.length)) ((aL Y).trans ((aL (NX ((dz Z).trans (if_neg (by rw[Od];exact h))) S)).trans (gI (uq (ys:=[.int (c % 2147483647),.bl dr]) (cH (ir rfl rfl (by decide)) (cH rfl rfl)) ui)))) rfl,X _ ⟨_,dr,cN,Pr _ (by decide),λ_=>O4 _ (by decide)⟩⟩
def rG(n a:Nat):List (List Int):=(r_ (a+1) (n - (a+1))).map λb:Nat=>[(a:Int),(b:Int)]
def dm(n:Nat):List (List Int):=(ey n).flatMap (rG n)
theorem pairs_len(Z:n<=14):(dm n).length<=91:=by
 have:∀m,m<15->(dm m).length<=91:=by decide+kernel
 exact this n (by omega)
theorem FO(Z:n<=14):(rG n a).length<=14:=by unfold rG;simp;omega
structure Kp(k:Nat)(S S':aB):Prop where
 len:S.length<=S'.length
 oth:∀i,i<S.length->i≠k->S'[i]? =S[i]?
 st:eN S' k
theorem Kp.trans(a:Kp k S S1)(b:Kp k S1 S2):Kp k S S2:=⟨Nz a.len b.len,λi Z Y=>(b.oth i (NK Z a.len) Y).trans (a.oth i Z Y),b.st⟩
theorem Kp.refl(h:eN S k):Kp k S S:=⟨Nu _,λ_ _ _=>rfl,h⟩
theorem eN.grow(h:eN S k):eN (S++G) k:=by obtain⟨st,b,e,r⟩:=id h;exact⟨st,b,by rw[N4 h.lt];exact e,r⟩
theorem Kp.grow(h:eN S k)(G:aB):Kp k S (S++G):=⟨by simp,λi Z _=>N4 Z,h.grow⟩
theorem FP{Q:D->aB->Prop}(hs:eN S k)(Y:0<many)(X:many<1073741824)(W:∀j Z,0<=j->j<many->Z.length=S.length->Kp k S Z->Q (.int j) Z):runs (ay [.lst k,.int many]) S Q:=
 Jf hs Y X λj Z a b c d e=>W j Z a b c ⟨PR c.symm,λi _ U=>d i U,e⟩
theorem nh:∀ns:List Int,mapP (gm S n) (ns.map D.int)=ar (ns.map O')
 |[]=>rfl
 |x::r=>by
  show(match gm S n (D.int x),mapP (gm S n) (r.map D.int)with|some p,ar ps=>ar (p::ps)|_,_=>none)=_;rw[jh,nh r];rfl
theorem Dp{ns:List Int}(h:S[k]? =ar (ns.map D.int)):gm S (n+1) (.lst k)=ar (.list (ns.map O')):=by show((S[k]?).bind λxs=>(mapP (gm S n) xs).map wh)=_;rw[h];show(mapP (gm S n) (ns.map D.int)).map wh=_;rw[nh];rfl
theorem sM{Z Y:Type}(f:Z->Y):∀(l:List Z) (i:Nat),(l.map f).eraseIdx i=(l.eraseIdx i).map f
 |[],_=>rfl
 |_::_,0=>rfl
 |a::l,i+1=>by simp[sM f l i]
def mD(r:List Int):PyData:=.tuple (r.map O')
theorem uB(r:List Int):gm S (n+1) (tupI r)=ar (mD r):=by show(mapP (gm S n) (r.map D.int)).map PyData.tuple=_;rw[nh];rfl
theorem kj:∀rs:List (List Int),mapP (gm S (n+1)) (rs.map tupI)=ar (rs.map mD)
 |[]=>rfl
 |x::r=>by
  show(match gm S (n+1) (tupI x),mapP (gm S (n+1)) (r.map tupI)with|some p,ar ps=>ar (p::ps)|_,_=>none)=_;rw[uB,kj r];rfl
theorem Dq{rs:List (List Int)}(h:S[k]? =ar (rs.map tupI)):gm S (n+2) (.lst k)=ar (.list (rs.map mD)):=by show((S[k]?).bind λxs=>(mapP (gm S (n+1)) xs).map wh)=_;rw[h];show(mapP (gm S (n+1)) (rs.map tupI)).map wh=_;rw[kj];rfl
theorem FQ{rs:List (List Int)}{Q:D->aB->Prop}(h:S[k]? =ar (rs.map tupI))(Z:∀b,Q (.bl b) S):runs (inD (tupI r) (.lst k)) S Q:=by unfold inD;rw[ub (uB r) (Dq h) rfl];exact Z _
theorem Lg{Q:D->aB->Prop}(Z:∀b,Q (.bl b) S):runs (gU (.bl a) (.bl b)) S Q:=by unfold gU;rw[eP m3 m3];exact Z _
theorem qA(ns:List Int):intsOf (ns.map D.int)=ar ns:=by
 induction ns with
 |nil=>rfl
 |cons x r ih=>simp[intsOf,ih]
theorem gS(rs:List (List Int)):rowsOf (rs.map tupI)=ar rs:=by
 induction rs with
 |nil=>rfl
 |cons x r ih=>
  show(match intsOf (x.map D.int),rowsOf (r.map tupI)with|some ns,ar nss=>ar (ns::nss)|_,_=>none)=_;rw[qA,ih]
structure WebOk(many:Int)(ts:List (List Int)):Prop where
 el:∀t∈ts,∃a b:Int,t=[a,b]/\0<=a/\a<b/\b<many
 ris:ts.Pairwise λa b=>HT.lexLt a b=c_
 few:ts.length<=60
theorem Ds:∀t∈dm n,∃a b:Int,t=[a,b]/\0<=a/\a<b/\b<n:=by intro t X;unfold dm at X;obtain⟨a,W,Y⟩:=List.mem_flatMap.mp X;unfold rG at Y;obtain⟨b,Z,rfl⟩:=N8.mp Y;rw[Qd]at Z;rw[N1]at W;exact⟨a,b,rfl,by omega,by omega,by omega⟩
theorem ni(Z:n<=7):(dm n).Pairwise (λa b=>HT.lexLt a b=c_)/\(dm n).length<=21:=by
 have:∀m,m<8->(dm m).Pairwise (λa b=>HT.lexLt a b=c_)/\(dm m).length<=21:=by decide+kernel
 exact this n (by omega)
theorem WebOk.of_sub(Z:n<=7){Y:List (List Int)}(h:Y.Sublist (dm n)):WebOk n Y:=
 ⟨λt X=>Ds t (h.subset X),List.Pairwise.sublist h (ni Z).1,Nz h.length_le (Nz (ni Z).2 (by decide))⟩
theorem AU{Z:List (List Int)}(h:Z.Pairwise λa b=>HT.lexLt a b=c_):iR Z=Z:=
 kd (dD Z) (d9 Z) (h.imp λz=>lY z)
theorem sN:rF (tupI a) (tupI b)=HT.lexLt a b:=by simp only[rF,tupI,qA]
theorem qB:∀{ts:List (List Int)},ts.Pairwise (λa b=>HT.lexLt a b=c_)->ng (ts.map tupI)=c_
 |[],_=>rfl
 |[_],_=>rfl
 |a::b::r,h=>by
  obtain⟨Y,Z⟩:=On.mp h;show(rF (tupI a) (tupI b) && ng ((b::r).map tupI))=c_;rw[sN,Y b (by simp),qB Z];rfl
theorem uC(Y:0<=many)(Z:many<=14)(w:WebOk many ts):iX (.tup [.int many,.tup (ts.map tupI)])=true:=by
 have:(ts.map tupI).all (iW many)=true:=by rw[Qk,NT];intro t W;obtain⟨a,b,rfl,X,T,U⟩:=w.el t W;simp[tupI,iW,iD,X,T,U];omega
 simp only[iX,Y,Z,this,qB w.ris,decide_true,Sg]
theorem sO:t∈eZ l↔t∈l:=by unfold eZ;rw[(dD _).mem_iff,iS]
theorem sP:∀l:List (List Int),(fI l).length<=l.length
 |[]=>Nu _
 |x::r=>by
  unfold fI;have:=sP r;split
  ·simp;omega
  ·simp;omega
theorem iY(l:List (List Int)):(eZ l).length<=l.length:=by unfold eZ;rw[(dD _).length_eq];exact sP l
theorem kl(l:List (List Int)):(eZ l).Pairwise λa b=>HT.lexLt a b=true:=by
 have Y:=d9 (fI l);have Z:(eZ l).Nodup:=(PM (dD _)).mpr (lZ l);unfold eZ at Z⊢;generalize iR (fI l)=s at Y Z
 induction s with
 |nil=>exact .nil
 |cons x r ih=>
  obtain⟨a1,a2⟩:=On.mp Y;obtain⟨W,U⟩:=Ow.mp Z;refine On.mpr ⟨λy X=>?_,ih a2 U⟩;cases q:HT.lexLt x y with
  |true=>rfl
  |false=>exact absurd (t7 q (a1 y X) ▸ X) W
structure Good(d:D):Prop where
 nr:Le d
 few:∀m ts,d= .tup [m,.tup ts]->ts.length<=18
theorem Lh{xs:List D}{j:Int}(Y:0<=j)(X:j<xs.length):∃d,iI xs j=ar d/\d∈xs:=by
 have Z:j.toNat<xs.length:=by omega
 refine⟨xs[j.toNat],?_,OG Z⟩;unfold iI wV;simp[Y,X,Z]
section
variable {d:D}
theorem Jh(h:Le d)(Y:∀m ts,d= .tup [m,.tup ts]->ts.length<=1000):gM [d]=if iX d=c_ then aw .non else M.raise (.exc "NoWeb" []):=by
 have Z:cA (bV (aH (az d5 (ae (mV 0) aq)))) [ar d]=aw (!iX d):=by show(bV _ _>>=_)=_;rw[fX (b:=iX d) (lh ((b7 rfl).trans (xP h Y)))];rfl
 cases hw:iX d with
 |true=>exact(xM ((dz Z).trans (by rw[hw];exact if_neg (by decide))) rfl).trans (if_pos rfl).symm
 |false=>exact(m4 ((dz Z).trans (by rw[hw];exact if_pos rfl))).trans (if_neg (by decide)).symm
end
theorem fw(l:List (List Int)):cn 0 (l.map tupI)=true:=by
 have h:∀r:List Int,cn 0 (r.map D.int)=true:=λr=>by
  induction r with
  |nil=>rfl
  |cons x r ih=>rw[NI];unfold cn;rw[ih];unfold fy;rfl
 induction l with
 |nil=>rfl
 |cons x l ih=>rw[NI];unfold cn;rw[ih];unfold tupI fy;rw[h];rfl
abbrev cJ(n:Nat)(E:List (List Int)):D:=.tup [.int n,.tup (E.map tupI)]
theorem Dt:Le (cJ n E):=by
 refine⟨rfl,?_⟩;intro ds e x Z;cases e;simp only[gg,e_,or_false]at Z;rcases Z with rfl|rfl
 ·exact⟨rfl,λX e=>by cases e⟩
 ·refine⟨rfl,λX e t Y=>?_⟩;cases e;obtain⟨r,_,rfl⟩:=N8.mp Y;refine⟨rfl,λds e x Z=>?_⟩;cases e;obtain⟨i,_,rfl⟩:=N8.mp Z;exact rfl
theorem zd{n:Nat}{E:List (List Int)}(w:WebOk n E):∀m Z,cJ n E= .tup [m,.tup Z]->Z.length<=1000:=by intro m Z e;cases e;have:=w.few;rw[Nt];omega
theorem same_int:cQ (k+1) [.int i,.int i]=aw (.bl c_):=by refine cS (o:=.ret (.bl c_)) ?_ rfl;show d6 _ [ar (.int i),ar (.int i)]=_;unfold d6;rw[aS (ρ':=[ar (.int i),ar (.int i)]) ((dz (b:=dr) (fX rfl)).trans (if_neg (by decide)))];refine dX ?_;show(aP jv (mV 0) (mV 1) _>>=_)=_;rw[cG (x:=.int i) (y:=.int i) rfl rfl,Ni,aj];rw[show iZ (D.bl c_)=aw c_ from rfl,aj,if_pos rfl,cG (x:=.bl dr) (y:=.bl dr) rfl rfl,Nj]
theorem qC{xs:List D}(P:xs.length<=1000)(h:∀x∈xs,cQ k [x,x]=aw (.bl c_)):cQ (k+1) [.tup xs,.tup xs]=aw (.bl c_):=by
 have em:((((xs.zip xs).map λp:D×D=>D.tup [p.1,p.2]).filter λ_=>c_).map λ_=>D.bl c_)=(xs.map λ_=>c_).map D.bl:=by rw[cq,N0,N0];refine List.ext_getElem (by simp) λi R O=>by simp
 have X:=mx (mi:=vN (mV 0) (mV 1)) (g:=fB 2 (bu (gN 0) (bu (gN 1) fV))) (t:=gQ (cQ k)) (m:=gR (cQ k)) (js:=[none,none]) (ρ:=[ar (.tup xs),ar (.tup xs)])
  (its:=(xs.zip xs).map λp:D×D=>D.tup [p.1,p.2]) (λρ=>∃x y,ρ=[x,y]) (λ_=>c_) (λ_=>.bl c_) rfl (by rw[Nt,List.length_zip];unfold lim;omega) ⟨none,none,rfl⟩
  (λd hd ρ ⟨x,y,hρ⟩=>by subst hρ;obtain⟨z,W,rfl⟩:=vX hd;exact⟨_,rfl,⟨_,_,rfl⟩,rfl,λ_=>lh ((call2 rfl rfl).trans (h z W))⟩) (by rw[em];exact uk _)
 rw[em]at X;have Z:(xs.map λ_=>c_).all id=true:=by rw[Qk];exact NT.mpr λ_ _=>rfl
 have hlen:∀j,j<2->cm fW (mV j) [ar (.tup xs),ar (.tup xs)]=aw (.int xs.length):=λj S=>by
  match j,S with
  |0,_=>rfl
  |1,_=>rfl
 refine cS (o:=.ret (.bl c_)) ?_ rfl;show d6 _ [ar (.tup xs),ar (.tup xs)]=_;unfold d6;refine cO ?_;refine(dz (b:=c_) (fX rfl)).trans ?_;rw[if_pos rfl];have Q:∀T,aP gU (fq (mV 0) T) (fq (mV 1) T) [ar (.tup xs),ar (.tup xs)]=aw (.bl dr):=λT=>(cG (x:=.bl (iP "tuple" T)) (y:=.bl (iP "tuple" T)) rfl rfl).trans MZ;have Y:∀T,eF gU (fq (mV 0) T) (fq (mV 1) T) [ar (.tup xs),ar (.tup xs)]=aw false:=λT=>bY (x:=.bl (iP "tuple" T)) (y:=.bl (iP "tuple" T)) rfl rfl MZ;have U:mW (eF gU (fq (mV 0) "tuple") (fq (mV 1) "tuple")) (eF gU (fq (mV 0) "list") (fq (mV 1) "list")) [ar (.tup xs),ar (.tup xs)]=aw false:=by show(eF gU _ _ _>>=_)=_;rw[Y "tuple",aj];exact Y "list"
 rw[aS ((dz U).trans (if_neg (by decide))),aS ((dz (bY (hlen 0 (by decide)) (hlen 1 (by decide)) Nk)).trans (if_neg (by decide)))];refine dX ((e9 X).trans (uo.trans ?_));rw[Z]
theorem Ji{E:List (List Int)}(W:E.length<=1000)(Y:∀t∈E,t.length<=1000):ij [cJ n E,cJ n E]=aw (.bl c_):=by
 refine qC (k:=5) (by decide:2<=1000) λx Z=>?_;simp only[gg,e_,or_false]at Z;rcases Z with rfl|rfl
 ·exact same_int
 ·refine qC (by rw[Nt];exact W) λx Z=>?_;obtain⟨r,X,rfl⟩:=N8.mp Z;refine qC (by rw[Nt];exact Y r X) λx Z=>?_;obtain⟨i,_,rfl⟩:=N8.mp Z;exact same_int
def qD(c:M D)(k:D->M D):M D:=λS=>match c S with
 |some (.ok _,S')=>k .non S'
 |some (.ex (.exc n ds),S')=>if n∈aY then k (.exc n ds) S' else none
 |_=>none
theorem Du{g:Str->Bool}(Z:n∈aY):vG g (.exc n ds)=aw (.bl (g n)):=if_pos Z
def xQ(bs:List Bool):D->Bool
 | .int k=>bs.getD k.toNat dr
 |_=>dr
section
variable {S S':aB}{k:Nat}
theorem uD(Z:Kp k S S'):nM S S':=λi xs Y e=>by
 by_cases h:i=k
 ·subst h;obtain⟨st,b,e2,_⟩:=Z.st;rw[e2]at e;cases e;exact .inr rfl
 ·exact .inl (by rw[<-Z.oth i Y h];exact e)
theorem zh(hs:eN S k)(Y:Kp k S S'):Kp k S (S'.take S.length)/\(S'.take S.length).length=S.length:=by
 have W:(S'.take S.length).length=S.length:=by rw[N5];have:=Y.len;omega
 have X:∀i,i<S.length->(S'.take S.length)[i]? =S'[i]? :=λi Z=>by rw[P2,if_pos Z]
 refine⟨⟨PR W.symm,λi Z U=>(X i Z).trans (Y.oth i Z U),?_⟩,W⟩;obtain⟨st,b,e,r⟩:=Y.st;exact⟨st,b,(X k hs.lt).trans e,r⟩
theorem zj{c:M D}(hs:eN S k)(h:c S=ar (.ok d,S'))(Z:Kp k S S')(Y:fy 0 d=c_):∃S1,iH c S=ar (.ok d,S1)/\Kp k S S1/\S1.length=S.length:=
 ⟨_,p9 h (uD Z) (.inr rfl) Z.len (xE d (CH (NN _) d Y)),zh hs Z⟩
theorem qE:fy 0 (cJ n E)=true:=by unfold cJ fy cn fy cn fy;rw[fw];rfl
theorem zl(hs:eN S k)(Y:0<many)(X:many<1073741824):∃j S1,iH (ay [.lst k,.int many]) S=ar (.ok (.int j),S1)/\0<=j/\j<many/\Kp k S S1/\S1.length=S.length:=by obtain⟨d,S',e,j,rfl,a,b,Z⟩:=FP (Q:=λd S'=>∃j,d= .int j/\0<=j/\j<many/\Kp k S S') hs Y X λj S' a b _ Z=>⟨j,rfl,a,b,Z⟩;obtain⟨S1,e1,k1⟩:=zj hs e Z rfl;exact⟨j,S1,e1,a,b,k1⟩
end
theorem Dv(h:n<=k)(Y:S[k]? =ar us)(Z:cn 0 us=c_):ke n (Ep S n (f+1)) (.lst k)=ar (.fz us):=by unfold ke;rw[if_neg (by omega)];show((S[k]?).bind λxs=>ju n (Ep S n f) xs).map D.fz=_;rw[Y,Ph,ia us (jf (NN _) us Z)];rfl
theorem Li{S G:aB}(i:Nat):(S++G)[S.length+i]? =G[i]? :=by rw[PB (Qq _ _),Nat.add_sub_cancel_left]
theorem Lj(h:∀S,gm S 60 (.fz us)=ar p)(Z:g8 p p=c_):gU (.fz us) (.fz us)=aw (.bl dr):=bH λS=>by unfold gU;exact(eP (h S) (h S)).mpr ⟨by rw[Z];rfl,rfl⟩
theorem Lk:gU (.fz [.int i]) (.fz [.int i])=aw (.bl dr):=Lj (p:=.list [.int i]) (λS=>rfl) (by simp[g8,kT])
theorem Dw:aH (bb (ae (mK (.int i)) aq)) ρ=aw (.fz [.int i]):=bJ (us:=[.int i]) rfl (by show 1<=lim;unfold lim;omega)
section
variable {ρ:aI}{js:List Nat}{ds:List D}{m:TM}{c:M D}{R:M D->List D->M D}{x:D}
theorem Dx(Z:xC js ρ=ar ds)(Y:m (ds.map ar)=c)(X:iH (R c [])=aw x):aH (vK js aq m R) ρ=aw x:=by
 have:vK js aq m R ρ=R c []:=by unfold vK;rw[Z];show(aq ρ>>=λes=>R (m (ds.map ar)) es)=_;rw[Y];rfl
 unfold aH;rw[this,X]
end
section
variable {me e:TM}{g:nE}{ρ ρ':aI}{S S1 S2:aB}{d:D}{F:List D->M D}{x y:D}
end
section
variable {S S1 S2:aB}{k p q:Nat}{e1 e2:TM}{ρ:aI}{x y:D}{f:D->List D->M D}{xs:List D}
theorem wc(X:e1 ρ=aw x)(Y:Ib x=aw ())(Z:e2 ρ S=ar (.ok y,S1)):uS f e1 e2 ρ S=f x [y] S1:=by unfold uS;rw[X,aj,Y,aj,aK (a:=[y]) (S1:=S1)];rw[aK Z];rfl
theorem xR(Z:S[p]? =ar xs)(Y:xs.length<=1000):cI (.lst p) [d] S=ar (.ok .non,S.set p (xs++[d])):=by show(getL p>>=λxs=>kG p (xs++[d])) S=_;rw[aK (ft Z)];exact kg (by rw[Nr];show xs.length+1<=lim;unfold lim;omega) (Nx.mp Z).1
theorem pop_at{j:Int}{d:D}(Z:S[p]? =ar xs)(U:xs.length<=1000)(Y:0<=j)(W:j<xs.length)(X:xs[j.toNat]? =ar d):mR (.lst p) [.int j] S=ar (.ok d,S.set p (xs.eraseIdx j.toNat)):=by show(getL p>>=λxs=>if 0<=j/\j<xs.length then (match xs[j.toNat]? with|some y=>(do let _<-kG p (xs.eraseIdx j.toNat);aw y)|none=>M.fail)else M.fail) S=_;rw[aK (ft Z),if_pos ⟨Y,W⟩,X];show(kG p (xs.eraseIdx j.toNat)>>=λ_=>aw d) S=_;rw[aK (kg (by have:=List.length_eraseIdx_le xs j.toNat;unfold lim;omega) (Nx.mp Z).1)];rfl
theorem Jj{ns:List Int}(Y:S[p]? =ar (ns.map D.int)):gU (.lst p) (.fz []) S=ar (.ok (.bl (!ns.isEmpty)),S):=by
 have X:gm S 60 (.fz [])=ar (.list []):=rfl;obtain⟨d,Z,e,h⟩:=(eP (f:=λp q=> !g8 p q) (Q:=λd Z=>d= .bl (!ns.isEmpty)/\Z=S) (Dp (n:=59) Y) X).mpr ⟨by
  have:g8 (.list (ns.map O')) (.list [])=ns.isEmpty:=by cases ns<;>simp[g8,kT]
  rw[this],rfl⟩
 obtain⟨rfl,rfl⟩:=h;exact e
end
theorem Kp.set(Y:Kp k S S')(U:S.length<=p)(W:k<S.length):Kp k S (S'.set p xs):=by
 refine⟨by rw[PY];exact Y.len,λi X Z=>?_,?_⟩
 ·rw[Ou (by omega)];exact Y.oth i X Z
 ·obtain⟨st,b,e,r⟩:=Y.st;exact⟨st,b,by rw[Ou (by omega)];exact e,r⟩
theorem xS{l:List Int}(h:j<l.length):(l[j]::l.eraseIdx j).Perm l:=by
 induction l generalizing j with
 |nil=>cases h
 |cons x l ih=>
  cases j with
  |zero=>exact .refl _
  |succ j=>exact(List.Perm.swap _ _ _).trans ((ih (by simpa using h)).cons _)
theorem MK{j:Int}(h: -(2 ^ 62)<=j/\j<=lim):eU [.int j]=bp (bc 0 j.toNat):=by unfold eU;exact if_pos h
theorem uE(r:List Int):cn 0 (r.map D.int)=true:=by
 induction r with
 |nil=>rfl
 |cons x r ih=>rw[NI];unfold cn;rw[ih];unfold fy;rfl
def iE(n:Nat):List Int:=(ey n).map λi:Nat=>(0:Int)+(i:Int)
inductive Dr(P:D->D->Prop):List D->List D->Prop
 |nil:Dr P [] []
 |skip {d:D} {ds ys:List D}:Dr P ds ys->Dr P (d::ds) ys
 |put {d y:D} {ds ys:List D}:P d y->Dr P ds ys->Dr P (d::ds) (y::ys)
theorem Dy{f:D->D->M D}{e1 e2:TM}(Z:e1 ρ S=ar (.ok x,S1))(Y:e2 ρ S1=ar (.ok y,S2))(h:f x y=aw (.bl b)):eF f e1 e2 ρ S=ar (.ok b,S2):=by
 have:(e1 ρ>>=λx=>e2 ρ>>=λy=>f x y) S=ar (.ok (.bl b),S2):=by rw[aK Z,aK Y,h];rfl
 exact aK this
theorem Jk{ys:List D}(Z:S[p]? =ar xs)(Y:xs.length+ys.length<=1000):lR (.lst p) [.fz ys] S=ar (.ok .non,S.set p (xs++ys)):=by show(getL p>>=λxs=>kG p (xs++ys)) S=_;rw[aK (ft Z)];exact kg (by rw[Nr];unfold lim;omega) (Nx.mp Z).1
theorem AV(X:∀r∈nss,r.length=2)(Y:nss.length<64):so (nss.map tupI)=bp ((iR nss).map tupI):=by
 cases nss with
 |nil=>rfl
 |cons r nss=>
  have W:two (r::nss)=true:=NT.mpr λx Z=>by rw[X x Z];rfl
  show(match rowsOf ((r::nss).map tupI)with|some nss=>vz nss|none=>M.fail)=_;rw[gS];exact if_pos ⟨Y,W⟩
theorem qF{c:M D}{Z:aB}(h:c S=ar (.ok (.lst Z.length),Z++[us]))(Y:Kp k S Z)(l:Z.length=S.length)(X:cn 0 us=c_):iH c S=ar (.ok (.fz us),Z):=by have:=p9 (u:=.fz us) h (uD (Y.trans (Kp.grow Y.st [us]))) (.inl (by rw[Nr,l];exact Qp _)) (by rw[Nr,l];exact P9 _) (Dv (f:=59) (by omega) cN X);rw[this, <-l,List.take_left]
theorem AW{Z:List (List Int)}(hs:eN S k)(W:S[p]? =ar (Z.map tupI))(X:∀r∈Z,r.length=2)(Y:Z.length<64):iH (dP [.lst p]) S=ar (.ok (.fz ((iR Z).map tupI)),S):=by refine qF ?_ (Kp.refl hs) rfl (fw _);show(getL p>>=λxs=>so xs) S=_;rw[aK (ft W),AV X Y];exact eQ (by rw[Nt,(dD Z).length_eq];unfold lim;omega)
theorem FR{zs:List Int}{a:Int}(Z:0<=a)(h:a<zs.length):cz (tupI zs) (.int a)=aw (.int (zs.getD a.toNat 0)):=by
 show(match iI (zs.map D.int) a with|some d=>(aw d:M D)|none=>M.fail)=_;have:iI (zs.map D.int) a=ar (.int (zs.getD a.toNat 0)):=by
  unfold iI wV;rw[Nt];have X:¬ (a<0):=by omega
  have Y:a.toNat<zs.length:=by omega
  simp[Z,h,Y]
 rw[this]
section
variable {n:Nat}{zs:List Int}{E:List (List Int)}
end
theorem Dz{Z:aI->M (List D)}(h:Z ρ S=ar (.ok [d1,d2],S1)):Fe i j Z ρ S=ar (.ok (.nx ((ρ.set i (ar d1)).set j (ar d2))),S1):=by unfold Fe;rw[aK h];rfl
theorem f7{e1 e2:TM}(hs:eN S k)(Y:e1 ρ=aw (.lst k))(X:e2 ρ=aw (.int m))(Z:0<m)(W:m<1000):∃j S1,aH (az ay (ae e1 (ae e2 aq))) ρ S=ar (.ok (.int j),S1)/\0<=j/\j<m/\Kp k S S1/\S1.length=S.length:=by obtain⟨j,S1,e,r⟩:=zl (many:=m) hs Z (by omega);refine⟨j,S1,?_,r⟩;unfold aH;rw[call2 Y X];exact e
def qG(n:Nat)(T:List (List Int)):Prop:=∀t∈T,∃a b:Int,t=[a,b]/\0<=a/\a<b/\b<n
theorem qG.snoc{n:Nat}{T:List (List Int)}{a b:Int}(h:qG n T)(Z:0<=a)(Y:a<b)(W:b<n):qG n (T++[[a,b]]):=λt X=>by
 rcases Oi.mp X with h'|h'
 ·exact h t h'
 ·exact⟨a,b,by simpa using h',Z,Y,W⟩
theorem Jl{e:TM}(h:e ρ S=ar (.ok x,S1)):vA e ρ S=kN [x] S1:=by unfold vA;rw[aK (cH h rfl)]
theorem FS{mi:aI->M Iter}(Z:mi ρ S=ar (.ok ⟨its,.none⟩,S1))(h:fc ⟨its,.none⟩ g b its ρ S1=ar (.ok o,S2)):kz mi g b ρ S=ar (.ok o,S2):=by unfold kz;rw[aK Z];exact h
theorem qG.two(h:qG n T):∀r∈T,r.length=2:=λr Z=>by obtain⟨a,b,rfl,_⟩:=h r Z;rfl
theorem we:∀s t:List Int,kT (s.map O') (t.map O')=decide (s=t)
 |[],[]=>by simp[kT]
 |[],_::_=>by simp[kT]
 |_::_,[]=>by simp[kT]
 |x::s,y::t=>by
  rw[NI,NI];unfold kT;rw[we s t,OZ];simp[g8]
theorem DA{X:Type} [DecidableEq X]:∀{l m:List X},l.Nodup->(∀x∈l,x∈m)->l.length<=m.length
 |[],_,_,_=>NN _
 |x::l,m,h,hs=>by
  obtain⟨U,W⟩:=Ow.mp h;have Z:=hs x (.head _);have:=DA (l:=l) (m:=m.erase x) W λy Y=>(List.mem_erase_of_ne (λ(e:y=x)=>U (by rw[<-e];exact Y))).mpr (hs y (.tail _ Y));rw[List.length_erase_of_mem Z]at this;have:=List.length_pos_of_mem Z;rw[NH];omega
theorem zm{a m:Nat}:bc ((a:Int)+1) ((m:Int) - ((a:Int)+1)).toNat=(r_ (a+1) (m - (a+1))).map λb:Nat=>.int (b:Int):=by
 have e:((m:Int) - ((a:Int)+1)).toNat=m - (a+1):=by omega
 rw[e];unfold bc;rw[List.range'_eq_map_range,N0];refine List.map_congr_left λi _=>?_;show D.int ((a:Int)+1+(i:Int))= .int ((a+1+i:Nat):Int);congr 1
theorem ML{n a:Nat}{x:Option D}(Z:n<=14)(Y:a<n):aH (bF (GL (aP bB (mV 2) (mK (.int 1))) (mV 0)) (gN 0) eR eS [none,ar 2]) [ar (.int n),x,ar (.int a)]=aw (.fz ((rG n a).map tupI)):=by
 have em:(((r_ (a+1) (n - (a+1))).map λb:Nat=>D.int (b:Int)).filter λ_=>c_).map (λd=>D.tup [.int a,d])=(rG n a).map tupI:=by unfold rG;rw[cq,N0,N0];rfl
 have h:=mx (mi:=GL (aP bB (mV 2) (mK (.int 1))) (mV 0)) (g:=gN 0) (t:=eR) (m:=eS) (js:=[none,ar 2]) (ρ:=[ar (.int n),x,ar (.int a)]) (its:=(r_ (a+1) (n - (a+1))).map λb:Nat=>D.int (b:Int)) (λρ=>∃y,ρ=[y,ar (.int a)]) (λ_=>c_) (λd=>D.tup [.int a,d])
  (by rw[CT (x:=.int ((a:Int)+1)) (y:=.int n) rfl rfl,K8 (by omega),zm]) (by rw[Nt,QT];unfold lim;omega) ⟨none,rfl⟩
  (λd hd ρ ⟨y,hρ⟩=>by subst hρ;refine⟨_,rfl,⟨_,rfl⟩,rfl,λ_=>?_⟩;show cW [.int a,d]=_;unfold cW;exact if_pos ui) (by rw[em];exact fw _)
 rw[em]at h;exact h
theorem sQ{S:aB}{n:Nat}{its:List D}(Z:n<=14):∀(post:List Nat) (acc:List (List Int)) (x:Option D),(∀a∈post,a<n)->acc.length+post.length*14<=300->
  ∃Y,fc ⟨its,.none⟩ (gN 2) gf (post.map λi:Nat=>.int (0+(i:Int))) [ar (.int n),ar (.lst S.length),x] (S++[acc.map tupI])=ar (.ok (.nx [ar (.int n),ar (.lst S.length),Y]),S++[(acc++post.flatMap (rG n)).map tupI])
 |[],acc,x,_,_=>⟨x,by rw[OW,jj,List.flatMap_nil,Om];rfl⟩
 |a::post,acc,x,ha,hl=>by
  rw[NH,Sx]at hl;have U:=FO (a:=a) Z;obtain⟨Y,W⟩:=sQ (S:=S) (its:=its) Z post (acc++rG n a) (ar (.int a)) (λb X=>ha b (.tail _ X)) (by rw[Nr];omega);refine⟨Y,?_⟩;rw[List.flatMap_cons, <-NZ, <-W,NI,QQ];refine iu rfl (sE (x:=.non) ((wc (x:=.lst S.length) rfl rfl (NX (ML Z (ha a (.head _))) _)).trans ((Jk cN (by rw[Nt,Nt];omega)).trans ?_)));rw[<-OF,Pz _ _ (Nu _),Sw];rfl
theorem DB{n:Nat}(Z:n<=14):iH (bq [.int n])=aw (.fz ((dm n).map tupI)):=by
 have T:=pairs_len Z;have Y:((dm n).map tupI).length<=lim:=by rw[Nt];unfold lim;omega
 have:bq [.int n]=bp ((dm n).map tupI):=by
  funext S;obtain⟨U,e⟩:=sQ (S:=S) (its:=bc 0 n) Z (ey n) [] none (λa X=>N1.mp X) (by rw[OD];simp;omega);have W:vA (mV 0) [ar (.int n),ar (.lst S.length),none]=aw ⟨bc 0 n,.none⟩:=by have:=(uj (m:=mV 0) (ρ:=[ar (.int n),ar (.lst S.length),none]) (x:=.int n) rfl).trans (CU (by omega));rw[OB]at this;exact this
  rw[eQ Y];exact fK (o:=.ret (.lst S.length)) ((aL (bN (eQ (S:=S) (us:=[]) (NN _)))).trans ((aL (m5 W e)).trans (gI rfl))) rfl
 rw[this];exact bJ (fw _) Y
theorem Jm{c:M D}{S Z:aB}{us:List D}{k q:Nat}(hs:eN S k)(h:c S=ar (.ok (.lst q),Z))(Y:Kp k S Z)(X:S.length<=q)(g:Z[q]? =ar us)(W:cn 0 us=c_):∃S1,iH c S=ar (.ok (.fz us),S1)/\Kp k S S1/\S1.length=S.length:=
 ⟨_,p9 (u:=.fz us) h (uD Y) (.inl (QP X (Nx.mp g).1)) Y.len (Dv (f:=59) X g W),zh hs Y⟩
theorem wg{S:aB}{k p q:Nat}{a1:Option D}(T:k<S.length)(N:S.length<=p)(O:S.length<=q)(X:p≠q):∀(f:Nat) (ls ms:List Int) (S':aB),ls.length<f->ls.length+ms.length<=14->S'[p]? =ar (ls.map D.int)->S'[q]? =ar (ms.map D.int)->Kp k S S'->
  ∃(zs:List Int) (W:aB),jF (eF gU (mV 2) (aH (bb aq))) cu f [ar (.lst k),a1,ar (.lst p),ar (.lst q)] S'=ar (.ok (.nx [ar (.lst k),a1,ar (.lst p),ar (.lst q)]),W)/\W[q]? =ar (zs.map D.int)/\zs.Perm (ms++ls)/\Kp k S W
 |0,ls,ms,S',h,_,_,_,_=>by omega
 | f +1,ls,ms,S',hf,hl,g1,g2,kp=>by
  have E:eF gU (mV 2) (aH (bb aq)) [ar (.lst k),a1,ar (.lst p),ar (.lst q)] S'=ar (.ok (!ls.isEmpty),S'):=by have A:aH (bb aq) [ar (.lst k),a1,ar (.lst p),ar (.lst q)]=aw (.fz []):=bJ (us:=[]) rfl (NN _);show((mV 2 _>>=λx=>aH (bb aq) _>>=λy=>gU x y)>>=iZ) S'=_;rw[A];show(gU (.lst p) (.fz [])>>=iZ) S'=_;rw[aK (Jj g1)];rfl
  rw[jF,aK E];cases ls with
  |nil=>exact⟨ms,S',by rfl,g2,by rw[Om],kp⟩
  | cons l0 ls0=>
   generalize hL:l0::ls0=ls at*;have R:(!ls.isEmpty)=true:=by rw[<-hL];rfl
   have L:0<ls.length:=by rw[<-hL];exact Nat.succ_pos _
   rw[if_pos R];obtain⟨j,S1,J,G,z,Y,w⟩:=zl (S:=S') (k:=k) (many:=ls.length) kp.st (by omega) (by omega);have K:=(Nx.mp g1).1;have ql:=(Nx.mp g2).1;have H:=(Y.oth p K (by omega)).trans g1;have C:=(Y.oth q ql (by omega)).trans g2;have P:j.toNat<ls.length:=by omega
   have F:cu [ar (.lst k),a1,ar (.lst p),ar (.lst q)] S'=ar (.ok (.nx [ar (.lst k),a1,ar (.lst p),ar (.lst q)]),(S1.set p ((ls.eraseIdx j.toNat).map D.int)).set q ((ms++[ls[j.toNat]]).map D.int)):=by
    unfold cu;have hlen:cm fW (mV 2) [ar (.lst k),a1,ar (.lst p),ar (.lst q)] S'=ar (.ok (.int ls.length),S'):=by refine(sF (x:=.lst p) (S1:=S') rfl).trans ?_;show(getL p>>=λxs=>aw (D.int xs.length)) S'=_;rw[aK (ft g1),Nt];rfl
    have Q:aH (az ay (ae (mV 0) (ae (cm fW (mV 2)) aq))) [ar (.lst k),a1,ar (.lst p),ar (.lst q)] S'=ar (.ok (.int j),S1):=by have I:az ay (ae (mV 0) (ae (cm fW (mV 2)) aq)) [ar (.lst k),a1,ar (.lst p),ar (.lst q)] S'=ay [.lst k,.int ls.length] S':=aK (cH (x:=.lst k) rfl (cH hlen rfl));unfold aH;rw[<-J];unfold iH;rw[I]
    have Z:=(wc (f:=mR) (e1:=mV 2) (ρ:=[ar (.lst k),a1,ar (.lst p),ar (.lst q)]) (x:=.lst p) rfl rfl Q).trans (pop_at (d:=.int ls[j.toNat]) H (by rw[Nt];omega) G (by rw[Nt];omega) (by rw[NP,Nw P];rfl));rw[sM]at Z;have U:=(wc (f:=cI) (e1:=mV 3) (ρ:=[ar (.lst k),a1,ar (.lst p),ar (.lst q)]) (x:=.lst q) rfl rfl Z).trans (xR (d:=.int ls[j.toNat]) (xs:=ms.map D.int) (by rw[Ou X];exact C) (by rw[Nt];omega));refine sE (x:=.non) (U.trans ?_);rw[OF];rfl
   rw[aK F];have he:=QK P;obtain⟨zs,W,e2,g3,B,k2⟩:=wg (a1:=a1) T N O X f (ls.eraseIdx j.toNat) (ms++[ls[j.toNat]]) ((S1.set p ((ls.eraseIdx j.toNat).map D.int)).set q ((ms++[ls[j.toNat]]).map D.int)) (by omega) (by rw[Nr];show _+(ms.length+1)<=14;omega)
    (by rw[Ou (j' X),N9 (by omega)]) (by rw[N9 (by rw[PY];omega)]) (((kp.trans Y).set N T).set O T)
   refine⟨zs,W,e2,g3,B.trans ?_,k2⟩;rw[NZ];exact(xS P).append_left ms
theorem DC{S:aB}{k n:Nat}{ρ:aI}{e1 e2:TM}(hs:eN S k)(L:n<=14)(T:e1 ρ=aw (.lst k))(N:e2 ρ=aw (.int n)):∃(zs:List Int) (S1:aB),aH (az dj (ae e1 (ae (aH (cm eU e2)) aq))) ρ S=ar (.ok (.fz (zs.map D.int)),S1)/\zs.Perm (iE n)/\Kp k S S1/\S1.length=S.length:=by
 have O:bc 0 n=(iE n).map D.int:=by unfold bc iE;rw[N0];rfl
 have hlen:(iE n).length=n:=by unfold iE;simp
 have Z:((iE n).map D.int).length<=lim:=by rw[Nt,hlen];unfold lim;omega
 have Q:aH (cm eU e2) ρ=aw (.fz ((iE n).map D.int)):=by unfold aH;rw[e9 N,MK (j:=n) ⟨by omega,by unfold lim;omega⟩,OB,O];exact bJ (uE _) Z
 obtain⟨zs,W,e,g3,U,k2⟩:=wg (S:=S) (k:=k) (p:=S.length) (q:=S.length+1) (a1:=ar (.fz ((iE n).map D.int))) hs.lt (Nu _) (P9 _) (by omega) 64 (iE n) [] (S++[(iE n).map D.int,[]]) (by omega) (by simp;omega) (Li 0) (Li 1) (Kp.grow hs _);have P:bx 3 (bb aq) [ar (.lst k),ar (.fz ((iE n).map D.int)),ar (.lst S.length),none] (S++[(iE n).map D.int])=ar (.ok (.nx [ar (.lst k),ar (.fz ((iE n).map D.int)),ar (.lst S.length),ar (.lst (S.length+1))]),S++[(iE n).map D.int,[]]):=by refine(bN (eQ (S:=S++[(iE n).map D.int]) (us:=[]) (NN _))).trans ?_;rw[NZ,Nr];rfl
 have R:cm nG (mV 1) [ar (.lst k),ar (.fz ((iE n).map D.int)),none,none] S=ar (.ok (.lst S.length),S++[(iE n).map D.int]):=(sF (F:=nG) (x:=.fz ((iE n).map D.int)) (S1:=S) rfl).trans (eQ Z);have X:ez [ar (.lst k),ar (.fz ((iE n).map D.int)),none,none] S=ar (.ok (.ret (.lst (S.length+1))),W):=by unfold ez;exact(aL (bN R)).trans ((aL P).trans ((aL e).trans (gI rfl)))
 have hm:dj [.lst k,.fz ((iE n).map D.int)] S=ar (.ok (.lst (S.length+1)),W):=fK X rfl;obtain⟨S1,Y,k1⟩:=Jm hs hm k2 (P9 _) g3 (uE _);refine⟨zs,S1,?_,by rw[Ic]at U;exact U,k1⟩;unfold aH;rw[call2 T Q];exact Y
theorem Dr.sub:∀{L:List (List Int)} {ys:List D},Dr (λd y=>y=d) (L.map tupI) ys->∃rs:List (List Int),ys=rs.map tupI/\rs.Sublist L
 |[],_,.nil=>⟨[],rfl,.slnil⟩
 |t::L,_,.skip h=>by
  obtain⟨rs,e,Z⟩:=Dr.sub h;exact⟨rs,e,Z.cons _⟩
 |t::L,_,.put p h=>by
  obtain⟨rs,e,Z⟩:=Dr.sub h;subst p e;exact⟨t::rs,rfl,Z.cons₂ _⟩
theorem nj{mi:aI->M Iter}{t:i4}{m:TM}{js:List (Option Nat)}{ρ:aI}{L:List (List Int)}{S:aB}{k:Nat}(r:List (Option D))(Q:mi ρ=aw ⟨L.map tupI,.none⟩)(K:L.length<=1000)(O:ky js ρ=none::r)(hs:eN S k)(R:∀d,m (ar d::r)=aw d)
  (N:∀(u:List Int) Y,Kp k S Y->Y.length=S.length->∃b S1,t (ar (tupI u)::r) Y=ar (.ok b,S1)/\Kp k Y S1/\S1.length=Y.length):
  ∃(rs:List (List Int)) (Z:aB),bF mi (gN 0) t m js ρ S=ar (.ok (.lst Z.length),Z++[rs.map tupI])/\rs.Sublist L/\Kp k S Z/\Z.length=S.length:=by
 have key:∀(items:List D) (o:Option D) (Y:aB),(∀d∈items,∃u,d=tupI u)->Kp k S Y->Y.length=S.length->∃ys Z,cy ⟨L.map tupI,.none⟩ (gN 0) t m items (o::r) Y=ar (.ok ys,Z)/\Dr (λd y=>y=d) items ys/\Kp k S Z/\Z.length=S.length:=λitems=>by
  induction items with
  |nil=>exact λo Y _ W l=>⟨[],Y,by unfold cy;rw[cM];rfl,.nil,W,l⟩
  | cons d ds ih=>
   intro o Y hd W l;obtain⟨u,rfl⟩:=hd d (.head _);obtain⟨b,S1,e1,k1,P⟩:=N u Y W l;obtain⟨ys,Z,e2,X,k2,U⟩:=ih (ar (tupI u)) S1 (λd h=>hd d (.tail _ h)) (W.trans k1) (P.trans l);cases b with
   |false=>
    refine⟨ys,Z,?_,.skip X,k2,U⟩;unfold cy;rw[cM,aj,show gN 0 (tupI u) (o::r)=aw (ar (tupI u)::r)from rfl,aj,aK e1,if_neg (by decide)];exact e2
   |true=>
    refine⟨tupI u::ys,Z,?_,.put rfl X,k2,U⟩;unfold cy;rw[cM,aj,show gN 0 (tupI u) (o::r)=aw (ar (tupI u)::r)from rfl,aj,aK e1,if_pos rfl,R,aj,aK e2];rfl
 obtain⟨ys,Z,e,X,k2,U⟩:=key (L.map tupI) none S (λd hd=>by obtain⟨u,_,rfl⟩:=N8.mp hd;exact⟨u,rfl⟩) (.refl hs) rfl;obtain⟨rs,rfl,T⟩:=X.sub;refine⟨rs,Z,?_,T,k2,U⟩;have:=T.length_le;unfold bF;rw[Q,aj];unfold fN;rw[if_pos (show(L.map tupI).length<=lim by rw[Nt];unfold lim;omega),O,aK e];exact eQ (by rw[Nt];unfold lim;omega)
theorem zo{ds:List D}{i:Int}(Z:0<=i)(Y:i<ds.length):∃d∈ds,cz (.fz ds) (.int i)=aw d:=by obtain⟨d,e,hd⟩:=Lh Z Y;refine⟨d,hd,?_⟩;show(match iI ds i with|some d=>(aw d:M D)|none=>M.fail)=_;rw[e]
theorem uF{zs:List Int}{a:Int}(Z:0<=a)(h:a<zs.length):cz (.fz (zs.map D.int)) (.int a)=aw (.int (zs.getD a.toNat 0)):=FR Z h
theorem GY{e1 e2:TM}{ρ:aI}{x y:Int}(Y:e1 ρ=aw (.int x))(W:e2 ρ=aw (.int y)):cm da (aH (cm dP (aH (bb (ae e1 (ae e2 aq)))))) ρ=aw (tupI (sortI [x,y])):=by
 have X:(sortI [x,y]).length=2:=(sortI_perm [x,y]).length_eq;have Z:((sortI [x,y]).map D.int).length<=lim:=by rw[Nt,X];exact ui
 have a1:aH (bb (ae e1 (ae e2 aq))) ρ=aw (.fz [.int x,.int y]):=by show iH (ae _ _ _>>=bp)=_;rw[aR Y (aR W (es:=aq) rfl),aj];exact bJ (us:=[.int x,.int y]) rfl ui
 refine(e9 (x:=.fz ((sortI [x,y]).map D.int)) ?_).trans (qh Z);show iH (cm dP _ _)=_;rw[e9 a1];exact bJ (uE _) Z
theorem Jn{s:List Int}{rs:List (List Int)}:∃b,inD (tupI s) (.fz (rs.map tupI))=aw (.bl b):=by
 refine⟨(rs.map mD).any λy=>g8 y (mD s),bH λS=>?_⟩;unfold inD;have Z:gm S 60 (.fz (rs.map tupI))=ar (.list (rs.map mD)):=by show(mapP (gm S 59) (rs.map tupI)).map wh=_;rw[kj];rfl
 exact(ub (uB s) Z (r:=(rs.map mD).any λy=>g8 y (mD s)) rfl).mpr ⟨rfl,rfl⟩
theorem nk{ρ:aI}{e:TM}{n:Nat}(Z:n<=14)(h:e ρ=aw (.int n)):dM (aH (az bq (ae e aq))) ρ=aw ⟨(dm n).map tupI,.none⟩:=by
 have:aH (az bq (ae e aq)) ρ=aw (.fz ((dm n).map tupI)):=by unfold aH;rw[b7 h];exact DB Z
 unfold dM;rw[this];rfl
section
variable {S:aB}{k n g:Nat}{j:Int}{zs:List Int}{its:List D}
abbrev m8:TM:=aH (bb (aQ (mK (.int 0)) (aQ (mK (.int 0)) (aQ (mK (.int 1)) (aQ (mK (.int 0)) (aQ (mK (.int 2)) (aQ (mK (.int 1)) (aQ (mK (.int 3)) (aQ (mV 1) aq)))))))))
theorem Jo{r:List (Option D)}(hs:eN S k):∃(n:Nat) (S1:aB),az maxD (ae (mK (.int 0)) (ae (aP gT (mV 1) (aP cz m8 (aH (az ay (ae (mV 0) (ae (mK (.int 8)) aq)))))) aq)) (ar (.lst k)::ar (.int g)::r) S=ar (.ok (.int n),S1)/\n<=g/\Kp k S S1/\S1.length=S.length:=by
 obtain⟨i,S1,Q,X,Y,k1,Z⟩:=f7 (e1:=mV 0) (e2:=mK (.int 8)) (ρ:=ar (.lst k)::ar (.int g)::r) (m:=8) hs rfl rfl (by decide) (by decide);have W:m8 (ar (.lst k)::ar (.int g)::r)=aw (.fz [.int 0,.int 0,.int 1,.int 0,.int 2,.int 1,.int 3,.int g]):=bJ (us:=[.int 0,.int 0,.int 1,.int 0,.int 2,.int 1,.int 3,.int g]) rfl (by show 8<=lim;unfold lim;omega);obtain⟨d,hd,T⟩:=zo (ds:=[.int 0,.int 0,.int 1,.int 0,.int 2,.int 1,.int 3,.int g]) X Y;have U:∃u:Int,d= .int u/\0<=u:=by simp only[gg,e_,or_false]at hd;rcases hd with rfl|rfl|rfl|rfl|rfl|rfl|rfl|rfl<;>exact⟨_,rfl,by omega⟩
 obtain⟨u,rfl,P⟩:=U;have R:aP gT (mV 1) (aP cz m8 (aH (az ay (ae (mV 0) (ae (mK (.int 8)) aq))))) (ar (.lst k)::ar (.int g)::r) S=ar (.ok (.int ((g:Int) - u)),S1):=
  (gi (f:=gT) (x:=.int g) (S1:=S) rfl ((gi (NX W S) Q).trans (NX T S1))).trans rfl
 refine⟨((g:Int) - u).toNat,S1,?_,by omega,k1,Z⟩;refine(aK (cH (x:=.int 0) (S1:=S) rfl (cH R rfl))).trans ?_;show ar (Res.ok (D.int (if (g:Int) - u>0 then (g:Int) - u else 0)),S1)=_;have:(if (g:Int) - u>0 then (g:Int) - u else 0)=(((g:Int) - u).toNat:Int):=by split<;>omega
 rw[this]
abbrev eW(k g n:Nat)(j:Int)(r:List (Option D)):aI:=ar (.lst k)::ar (.int g)::ar (.int n)::ar (.int j)::r
theorem FT{r:List (Option D)}(hs:eN S k)(R:n<=7)(P:0<=j):∃(rs:List (List Int)) (S2:aB),bF (dM (aH (az bq (ae (mV 2) aq)))) (gN 0) iA iB [none,ar 0,ar 3] (eW k g n j r) S=ar (.ok (.lst S2.length),S2++[rs.map tupI])/\rs.Sublist (dm n)/\Kp k S S2/\S2.length=S.length:=
 nj [ar (.lst k),ar (.int j)] (nk (by omega) rfl) (by have:=pairs_len (n:=n) (by omega);omega) rfl hs (λd=>rfl) λu Q W l=>by
  obtain⟨i,S1,T,N,O,k1,X⟩:=f7 (e1:=mV 1) (e2:=mK (.int 8)) (ρ:=[ar (tupI u),ar (.lst k),ar (.int j)]) (m:=8) W.st rfl rfl (by decide) (by decide);have Z:aH (bb (ae (mK (.int 2)) (ae (mK (.int 4)) (ae (mK (.int 6)) aq)))) [ar (tupI u),ar (.lst k),ar (.int j)]=aw (.fz [.int 2,.int 4,.int 6]):=bJ (us:=[.int 2,.int 4,.int 6]) rfl (by show 3<=lim;unfold lim;omega);have hm:aP kL (mV 2) (mK (.int 3)) [ar (tupI u),ar (.lst k),ar (.int j)]=aw (.int (j % 3)):=(cG (x:=.int j) (y:=.int 3) rfl rfl).trans (show kL (.int j) (.int 3)=_ from if_pos (e:=M.fail) (show(0:Int)<3 by decide));obtain⟨d,hd,U⟩:=zo (ds:=[.int 2,.int 4,.int 6]) (i:=j % 3) (by omega) (by show j % 3<3;omega);have Y:∃v:Int,d= .int v:=by simp only[gg,e_,or_false]at hd;rcases hd with rfl|rfl|rfl<;>exact⟨_,rfl⟩
  obtain⟨v,rfl⟩:=Y;exact⟨decide (i<v),S1,Dy (y:=.int v) T (NX ((cG Z hm).trans U) S1) rfl,k1,X⟩
theorem Jp{a:Nat}{q:Nat}{x7:Option D}(R:2<j)(Q:j<7)(P:1<=a)(Z:a<n)(T:zs.length=n):∃r:List Int,cm da (aH (cm dP (aH (bb (ae (aP cz (mV 5) (mV 6)) (ae (aP cz (mV 5) (aP cz (aH (bb (aQ (aP gT (mV 6) (mK (.int 1))) (aQ (aP gT (mV 6) (mK (.int 1))) (aQ (mK (.int 0)) (aQ (aP lO (mV 6) (mK (.int 2))) aq)))))) (aP gT (mV 3) (mK (.int 3))))) aq)))))) (eW k g n j [ar (.lst q),ar (.fz (zs.map D.int)),ar (.int a),x7])=aw (tupI r):=by
 have X:aH (bb (aQ (aP gT (mV 6) (mK (.int 1))) (aQ (aP gT (mV 6) (mK (.int 1))) (aQ (mK (.int 0)) (aQ (aP lO (mV 6) (mK (.int 2))) aq))))) (eW k g n j [ar (.lst q),ar (.fz (zs.map D.int)),ar (.int a),x7])=aw (.fz [.int ((a:Int) - 1),.int ((a:Int) - 1),.int 0,.int ((a:Int) / 2)]):=by
  have W:aQ (aP gT (mV 6) (mK (.int 1))) (aQ (aP gT (mV 6) (mK (.int 1))) (aQ (mK (.int 0)) (aQ (aP lO (mV 6) (mK (.int 2))) aq))) (eW k g n j [ar (.lst q),ar (.fz (zs.map D.int)),ar (.int a),x7])=aw [.int ((a:Int) - 1),.int ((a:Int) - 1),.int 0,.int ((a:Int) / 2)]:=
   aR (x:=.int ((a:Int) - 1)) rfl (aR (x:=.int ((a:Int) - 1)) rfl (aR (x:=.int 0) rfl (aR (x:=.int ((a:Int) / 2)) ((cG (x:=.int a) (y:=.int 2) rfl rfl).trans (show lO (.int a) (.int 2)=_ from if_pos (e:=M.fail) (show zV a 2 from⟨by decide,by decide⟩))) (es:=aq) rfl)))
  show iH (aQ _ _ _>>=bp)=_;rw[W,aj];exact bJ (us:=[.int ((a:Int) - 1),.int ((a:Int) - 1),.int 0,.int ((a:Int) / 2)]) rfl (by show 4<=lim;unfold lim;omega)
 obtain⟨d,hd,Y⟩:=zo (ds:=[.int ((a:Int) - 1),.int ((a:Int) - 1),.int 0,.int ((a:Int) / 2)]) (i:=j - 3) (by omega) (by show j - 3<4;omega);have U:∃v:Int,d= .int v/\0<=v/\v<n:=by simp only[gg,e_,or_false]at hd;rcases hd with rfl|rfl|rfl|rfl<;>exact⟨_,rfl,by omega,by omega⟩
 obtain⟨v,rfl,v0,v1⟩:=U;exact⟨_,GY ((cG (x:=.fz (zs.map D.int)) (y:=.int a) rfl rfl).trans (uF (by omega) (by omega))) ((cG (x:=.fz (zs.map D.int)) rfl ((cG (y:=.int (j - 3)) X rfl).trans Y)).trans (uF v0 (by omega)))⟩
theorem zq{q:Nat}{ρ:aI}{e:TM}{r:List Int}{acc:List (List Int)}(Y:mV 4 ρ=aw (.lst S.length))(Z:e ρ=aw (tupI r))(X:acc.length<=500):vB (uS cI (mV 4) e) ρ (S++[acc.map tupI])=ar (.ok (.nx ρ),S++[(acc++[r]).map tupI]):=by refine sE (x:=.non) ((wc Y rfl (NX Z _)).trans ((xR cN (by rw[Nt];omega)).trans ?_));rw[OF,Pz _ _ (Nu _),Sw];rfl
theorem GZ(W:2<j)(U:j<7)(X:zs.length=n):∀(post:List Nat) (acc:List (List Int)) (x6 x7:Option D),(∀a∈post,1<=a/\a<n)->acc.length+post.length<=100->
  ∃(Y:Option D) (Z:List (List Int)),fc ⟨its,.none⟩ (gN 6) fQ (post.map λb:Nat=>.int (b:Int)) (eW k g n j [ar (.lst S.length),ar (.fz (zs.map D.int)),x6,x7]) (S++[acc.map tupI])=ar (.ok (.nx (eW k g n j [ar (.lst S.length),ar (.fz (zs.map D.int)),Y,x7])),S++[Z.map tupI])/\Z.length<=acc.length+post.length
 |[],acc,x6,x7,_,_=>⟨x6,acc,by rw[OW,jj];rfl,Nu _⟩
 |a::post,acc,x6,x7,ha,hl=>by
  rw[NH]at hl⊢;obtain⟨P,N⟩:=ha a (.head _);obtain⟨r,O⟩:=Jp (k:=k) (g:=g) (q:=S.length) (x7:=x7) W U P N X;obtain⟨Y,Z,Q,R⟩:=GZ W U X post (acc++[r]) (ar (.int a)) x7 (λb T=>ha b (.tail _ T)) (by rw[Nr];show acc.length+1+_<=100;omega);refine⟨Y,Z,?_,by rw[Nr]at R;have:[r].length=1:=rfl;omega⟩;rw[<-Q,NI];exact iu rfl (zq (q:=0) rfl O (by omega))
theorem Ll{r:List (Option D)}(hs:eN S k)(T:n<=7):∃(rs:List (List Int)) (Z:aB),aH (bF (dM (aH (az bq (ae (mV 2) aq)))) (gN 0) eL eM [none,ar 0]) (eW k g n j r) S=ar (.ok (.fz (rs.map tupI)),Z)/\Kp k S Z/\Z.length=S.length:=by
 obtain⟨rs,Z,e,_,k2,Y⟩:=nj (t:=eL) (m:=eM) (js:=[none,ar 0]) (ρ:=eW k g n j r) [ar (.lst k)] (nk (e:=mV 2) (by omega) rfl) (by have:=pairs_len (n:=n) (by omega);omega) rfl hs (λd=>rfl) λu R W l=>by obtain⟨i,S1,U,P,Q,k1,X⟩:=f7 (e1:=mV 1) (e2:=mK (.int 12)) (ρ:=[ar (tupI u),ar (.lst k)]) (m:=12) W.st rfl rfl (by decide) (by decide);exact⟨_,S1,Dy (y:=.int 0) U rfl MJ,k1,X⟩
 exact⟨rs,Z,qF e k2 Y (fw _),k2,Y⟩
theorem FU{q:Nat}{os acc:List (List Int)}{x5 x6:Option D}(hs:eN S k)(L:n<=7)(U:S[q]? =ar (acc.map tupI))(Y:q≠k):∃(rs:List (List Int)) (S2:aB),bF (dM (aH (az bq (ae (mV 2) aq)))) (gN 0) fR fS [none,ar 4,ar 7] (eW k g n j [ar (.lst q),x5,x6,ar (.fz (os.map tupI))]) S=ar (.ok (.lst S2.length),S2++[rs.map tupI])/\rs.Sublist (dm n)/\Kp k S S2/\S2.length=S.length:=
 nj [ar (.lst q),ar (.fz (os.map tupI))] (nk (by omega) rfl) (by have:=pairs_len (n:=n) (by omega);omega) rfl hs (λd=>rfl) λu Z W l=>by have X:=(W.oth q (Nx.mp U).1 Y).trans U;obtain⟨_,_,e1,b,rfl,rfl⟩:=FQ (r:=u) (Q:=λd T=>∃b,d= .bl b/\Z=T) X λb=>⟨b,rfl,rfl⟩;obtain⟨c,e2⟩:=Jn (s:=u) (rs:=os);obtain⟨_,_,O,P,rfl,rfl⟩:=Lg (S:=Z) (a:=b) (b:=c) (Q:=λd T=>∃b,d= .bl b/\Z=T) λb=>⟨b,rfl,rfl⟩;refine⟨P,Z,?_,.refl W.st,rfl⟩;have R:aP inD (mV 0) (mV 1) [ar (tupI u),ar (.lst q),ar (.fz (os.map tupI))] Z=ar (.ok (.bl b),Z):=(NX (cG (x:=tupI u) (y:=.lst q) rfl rfl) Z).trans e1;have N:aP inD (mV 0) (mV 2) [ar (tupI u),ar (.lst q),ar (.fz (os.map tupI))] Z=ar (.ok (.bl c),Z):=NX ((cG (x:=tupI u) (y:=.fz (os.map tupI)) rfl rfl).trans e2) Z;exact aK ((gi R N).trans O)
theorem Lm{m:TM}{ρ:aI}(Z:n<=100)(h:m ρ=aw (.int n)):GL (mK (.int 1)) m ρ=aw ⟨(r_ 1 (n - 1)).map λb:Nat=>.int (b:Int),.none⟩:=by have:=zm (a:=0) (m:=n);rw[CT (x:=.int 1) rfl h,K8 (by omega)];rw[show((0:Nat):Int)+1=1 from rfl]at this;rw[this]
theorem Ln{ρ:aI}{q:Nat}{rs:List (List Int)}(hs:eN S k)(Z:n<=7)(T:mV 2 ρ=aw (.int n))(W:mV 4 ρ=aw (.lst q))(g:S[q]? =ar (rs.map tupI))(Y:rs.Sublist (dm n)):
  bM (jJ (ae (mV 2) (ae (cm da (aH (cm dP (mV 4)))) aq))) ρ S=ar (.ok (.ret (cJ n rs)),S):=by
 have w:WebOk n rs:=WebOk.of_sub Z Y;have hf:=w.few;have X:aH (cm dP (mV 4)) ρ S=ar (.ok (.fz (rs.map tupI)),S):=by unfold aH;rw[e9 W];have:=AW hs g (λr U=>by obtain⟨a,b,e,_⟩:=w.el r U;rw[e];rfl) (by omega);rw[AU w.ris]at this;exact this
 refine gI (um (NX T S) ((sF X).trans ?_));rw[qh (by rw[Nt];unfold lim;omega)];rfl
theorem Jq{q:Nat}{acc:List (List Int)}{x6 x7:Option D}(R:n<=7)(U:zs.length=n)(T:acc.length<=100):∃acc2:List (List Int),iU (xw (eF jv (mV 3) (mK (.int 4))) (eF BM (mV 2) (mK (.int 2)))) (vB (uS cI (mV 4) (cm da (aH (cm dP (aH (bb (ae (aP cz (mV 5) (mK (.int 0))) (ae (aP cz (mV 5) (aP gT (mV 2) (mK (.int 1)))) aq))))))))) dN (eW k g n j [ar (.lst S.length),ar (.fz (zs.map D.int)),x6,x7]) (S++[acc.map tupI])=ar (.ok (.nx (eW k g n j [ar (.lst S.length),ar (.fz (zs.map D.int)),x6,x7])),S++[acc2.map tupI]):=by
 have Y:eF jv (mV 3) (mK (.int 4)) (eW k g n j [ar (.lst S.length),ar (.fz (zs.map D.int)),x6,x7])=aw (decide (j=4)):=bY (x:=.int j) (y:=.int 4) rfl rfl MJ;have W:eF BM (mV 2) (mK (.int 2)) (eW k g n j [ar (.lst S.length),ar (.fz (zs.map D.int)),x6,x7])=aw (decide (2<(n:Int))):=bY (x:=.int n) (y:=.int 2) rfl rfl rfl;have Z:xw (eF jv (mV 3) (mK (.int 4))) (eF BM (mV 2) (mK (.int 2))) (eW k g n j [ar (.lst S.length),ar (.fz (zs.map D.int)),x6,x7])=aw (decide (j=4) && decide (2<(n:Int))):=by
  show(eF jv _ _ _>>=_)=_;rw[Y,aj];cases decide (j=4)with
  |false=>rfl
  |true=>exact W
 by_cases h:(decide (j=4) && decide (2<(n:Int)))=c_
 ·have X:2<n:=by
   have:=OC ((OA _ _).mp h).2;omega
  refine⟨_,(NX ((dz Z).trans (if_pos h)) _).trans (zq (q:=0) rfl (GY (x:=zs.getD 0 0) (y:=zs.getD (n - 1) 0) ?_ ?_) (by omega))⟩
  ·exact(cG (x:=.fz (zs.map D.int)) (y:=.int 0) rfl rfl).trans (uF (by decide) (by omega))
  ·refine(cG (x:=.fz (zs.map D.int)) (y:=.int ((n:Int) - 1)) rfl rfl).trans ((uF (by omega) (by omega)).trans ?_);rw[show((n:Int) - 1).toNat=n - 1 by omega]
 ·exact⟨acc,(NX ((dz Z).trans (if_neg h)) _).trans rfl⟩
theorem Jr(hg:g<=7)(hs:eN S k):∃(n:Nat) (E:List (List Int)) (S1:aB),iH (eX [.lst k,.int g]) S=ar (.ok (cJ n E),S1)/\n<=g/\WebOk n E/\Kp k S S1/\S1.length=S.length:=by
 obtain⟨n,T1,e1,hn,k1,l1⟩:=Jo (g:=g) (r:=[none,none,none,none,none,none]) hs;have Y:n<=7:=by omega
 obtain⟨j,T2,e2,t,h,k2,l2⟩:=f7 (e1:=mV 0) (e2:=mK (.int 7)) (ρ:=[ar (.lst k),ar (.int g),ar (.int n),none,none,none,none,none]) (m:=7) k1.st rfl rfl (by decide) (by decide);obtain⟨rs,R,l,s,k3,l3⟩:=FT (g:=g) (n:=n) (j:=j) (r:=[none,none,none,none]) k2.st Y t;have G:=Kp.grow k3.st [rs.map tupI];obtain⟨zs,X,e4,pz,k5,l5⟩:=DC (n:=n) (ρ:=eW k g n j [ar (.lst R.length),none,none,none]) (e1:=mV 0) (e2:=mV 2) G.st (by omega) rfl rfl;have F:zs.length=n:=by rw[pz.length_eq];unfold iE;simp
 have u:k<R.length:=by have:=hs.lt;omega
 have z:X[R.length]? =ar (rs.map tupI):=(k5.oth R.length (by simp) (by omega)).trans cN;have B:=((k1.trans k2).trans k3).trans (G.trans k5);have key:∃(x4:Nat) (Z:List (List Int)) (ρ:aI) (T:aB),iU (eF BM (mV 3) (mK (.int 2))) (aG (bx 4 (bb aq)) (aG (kz (GL (mK (.int 1)) (mV 2)) (gN 6) fQ) (aG (iU (xw (eF jv (mV 3) (mK (.int 4))) (eF BM (mV 2) (mK (.int 2)))) (vB (uS cI (mV 4) (cm da (aH (cm dP (aH (bb (ae (aP cz (mV 5) (mK (.int 0))) (ae (aP cz (mV 5) (aP gT (mV 2) (mK (.int 1)))) aq))))))))) dN) (aG (bx 7 (aH (bF (dM (aH (az bq (ae (mV 2) aq)))) (gN 0) eL eM [none,ar 0]))) (bx 4 (bF (dM (aH (az bq (ae (mV 2) aq)))) (gN 0) fR fS [none,ar 4,ar 7])))))) dN (eW k g n j [ar (.lst R.length),ar (.fz (zs.map D.int)),none,none]) X=ar (.ok (.nx ρ),T)/\mV 2 ρ=aw (.int n)/\mV 4 ρ=aw (.lst x4)/\T[x4]? =ar (Z.map tupI)/\Z.Sublist (dm n)/\Kp k S T:=by
  have H:eF BM (mV 3) (mK (.int 2)) (eW k g n j [ar (.lst R.length),ar (.fz (zs.map D.int)),none,none])=aw (decide (2<j)):=bY (x:=.int j) (y:=.int 2) rfl rfl rfl;by_cases hj:2<j
  ·have v:=Lm (n:=n) (m:=mV 2) (ρ:=eW k g n j [ar (.lst X.length),ar (.fz (zs.map D.int)),none,none]) (by omega) rfl;obtain⟨K,acc,L,I⟩:=GZ (S:=X) (k:=k) (g:=g) (its:=(r_ 1 (n - 1)).map λb:Nat=>.int (b:Int)) hj h F (r_ 1 (n - 1)) [] none none (λa e=>by have:=Qd.mp e;omega) (by rw[QT];simp;omega);rw[QT]at I;obtain⟨U,O⟩:=Jq (S:=X) (k:=k) (g:=g) (j:=j) (zs:=zs) (q:=0) (x6:=K) (x7:=none) Y F (acc:=acc) (by simp at I;omega);have Q:=Kp.grow k5.st [U.map tupI];obtain⟨os,f,i,P,l7⟩:=Ll (g:=g) (n:=n) (j:=j) (r:=[ar (.lst X.length),ar (.fz (zs.map D.int)),K,none]) Q.st Y;have A:k<X.length:=by have:=k5.len;simp at this;omega
   have N:f[X.length]? =ar (U.map tupI):=(P.oth X.length (by simp) (by omega)).trans cN;obtain⟨Z,p,e8,W,J,l8⟩:=FU (g:=g) (n:=n) (j:=j) (os:=os) (x5:=ar (.fz (zs.map D.int))) (x6:=K) P.st Y N (by omega);refine⟨p.length,Z,_,_,(NX ((dz H).trans (if_pos (NJ hj))) X).trans ((aL (bN (eQ (S:=X) (us:=[]) (NN _)))).trans ((aL (m5 v L)).trans ((aL O).trans ((aL (bN i)).trans (bN e8))))),rfl,rfl,cN,W,B.trans ((Q.trans P).trans (J.trans (Kp.grow J.st _)))⟩
  ·exact⟨R.length,rs,_,_,(NX ((dz H).trans (if_neg (by rw[Od];exact hj))) X).trans rfl,rfl,rfl,z,s,B⟩
 obtain⟨x4,Z,ρ,T,L,h2,w,N,W,C⟩:=key;have hm:jl [ar (.lst k),ar (.int g),none,none,none,none,none,none] S=ar (.ok (.ret (cJ n Z)),T):=by unfold jl;exact(aL (bN e1)).trans ((aL (bN e2)).trans ((aL (bN l)).trans ((aL (bN e4)).trans ((aL L).trans (Ln C.st Y h2 w N W)))))
 obtain⟨S1,O,Q⟩:=zj (c:=eX [.lst k,.int g]) (d:=cJ n Z) hs (fK (o:=.ret (cJ n Z)) hm rfl) C qE;exact⟨n,Z,S1,O,hn,WebOk.of_sub Y W,Q⟩
abbrev eG(k n q:Nat)(r:List (Option D)):aI:=ar (.lst k)::ar (.int n)::ar (.lst q)::r
theorem G0{B:aB}(L:k<B.length)(A:8<=n)(W:n<=14):∀(post:List Nat) (acc:List (List Int)) (S':aB) (x3 x4 x5:Option D),acc.length+post.length<=100->qG n acc->S'[B.length]? =ar (acc.map tupI)->Kp k B S'->
  ∃(T O P:Option D) (Z:List (List Int)) (X:aB),fc ⟨its,.none⟩ (gN 3) eJ (post.map λi:Nat=>.int (0+(i:Int))) (eG k n B.length [x3,x4,x5]) S'=ar (.ok (.nx (eG k n B.length [T,O,P])),X)/\X[B.length]? =ar (Z.map tupI)/\qG n Z/\Z.length<=acc.length+post.length/\Kp k B X
 |[],acc,S',x3,x4,x5,_,gt,g,kp=>⟨x3,x4,x5,acc,S',by rw[OW,jj];rfl,g,gt,Nu _,kp⟩
 | a ::post,acc,S',x3,x4,x5,hl,gt,g,kp=>by
  rw[NH]at hl⊢;obtain⟨i,K,e1,p,r,k1,z⟩:=f7 (e1:=mV 0) (e2:=mV 1) (ρ:=eG k n B.length [ar (.int (0+(a:Int))),x4,x5]) (m:=n) kp.st rfl rfl (by omega) (by omega);obtain⟨v,Y,e2,v0,v1,k2,s⟩:=f7 (e1:=mV 0) (e2:=aP gT (mV 1) (mK (.int 1))) (ρ:=eG k n B.length [ar (.int (0+(a:Int))),ar (.int i),x5]) (m:=(n:Int) - 1) k1.st rfl rfl (by omega) (by omega);have I:=(Nx.mp g).1;have g2:=(k2.oth B.length (by omega) (by omega)).trans ((k1.oth B.length I (by omega)).trans g);have N:aP kL (aP bB (aP bB (mV 4) (mK (.int 1))) (aH (az ay (ae (mV 0) (ae (aP gT (mV 1) (mK (.int 1))) aq))))) (mV 1) (eG k n B.length [ar (.int (0+(a:Int))),ar (.int i),x5]) K=ar (.ok (.int ((i+1+v) % n)),Y):=
   (gi ((gi (f:=bB) (x:=.int (i+1)) (S1:=K) rfl e2).trans rfl) (y:=.int n) rfl).trans (NX (show kL (.int (i+1+v)) (.int n)=_ from if_pos (e:=M.fail) (show(0:Int)<n by omega)) Y)
  generalize hw:(i+1+v) % (n:Int)=w at N;have q:0<=w:=by rw[<-hw];exact Pr _ (by omega)
  have t:w<n:=by rw[<-hw];exact O4 _ (by omega)
  have F:i≠w:=by
   intro e;have E:=Int.mul_ediv_add_emod (i+1+v) n;rw[hw]at E;have o:(n:Int)*((i+1+v) / n)=1+v:=by omega
   have u:0<(i+1+v) / (n:Int):=by
    rcases Int.lt_or_le 0 ((i+1+v) / (n:Int))with h|h
    ·exact h
    ·have:=Int.mul_nonpos_of_nonneg_of_nonpos (a:=(n:Int)) (by omega) h;omega
   have:=Int.mul_le_mul_of_nonneg_left (show 1<=(i+1+v) / (n:Int) by omega) (show(0:Int)<=n by omega);omega
  have U:az minD (ae (mV 4) (ae (mV 5) aq)) (eG k n B.length [ar (.int (0+(a:Int))),ar (.int i),ar (.int w)])=aw (.int (if w<i then w else i)):=(call2 (x:=.int i) (y:=.int w) rfl rfl).trans rfl;have R:az maxD (ae (mV 4) (ae (mV 5) aq)) (eG k n B.length [ar (.int (0+(a:Int))),ar (.int i),ar (.int w)])=aw (.int (if w>i then w else i)):=(call2 (x:=.int i) (y:=.int w) rfl rfl).trans rfl;obtain⟨T,O,P,Z,X,H,J,Q,G,C⟩:=G0 L A W post (acc++[[if w<i then w else i,if w>i then w else i]]) (Y.set B.length ((acc++[[if w<i then w else i,if w>i then w else i]]).map tupI)) (ar (.int (0+(a:Int)))) (ar (.int i)) (ar (.int w)) (by rw[Nr];show acc.length+1+_<=100;omega)
   (gt.snoc (by split<;>omega) (by split<;>split<;>omega) (by split<;>omega)) (N9 (by omega)) (((kp.trans k1).trans k2).set (Nu _) L)
  refine⟨T,O,P,Z,X,?_,J,Q,by rw[Nr]at G;have:[[if w<i then w else i,if w>i then w else i]].length=1:=rfl;omega,C⟩;rw[<-H,NI];refine iu rfl ((aL (bN e1)).trans ((aL (bN N)).trans (sE (x:=.non) ((wc (x:=.lst B.length) (y:=tupI [if w<i then w else i,if w>i then w else i]) (S1:=Y) rfl rfl (um (NX U Y) (NX R Y))).trans ((xR g2 (by rw[Nt];omega)).trans ?_)))));rw[OF];rfl
theorem DD(hs:eN S k):∃(n:Nat) (E:List (List Int)) (S1:aB),iH (bS [.lst k]) S=ar (.ok (cJ n E),S1)/\8<=n/\n<=14/\WebOk n E/\E.length<=21/\Kp k S S1/\S1.length=S.length:=by
 obtain⟨j,B,T,v,z,k1,y⟩:=f7 (e1:=mV 0) (e2:=mK (.int 7)) (ρ:=[ar (.lst k),none,none,none,none,none]) (m:=7) hs rfl rfl (by decide) (by decide);obtain⟨n,A⟩:∃n:Nat,8+j=n:=⟨(8+j).toNat,by omega⟩;have L:k<B.length:=by have:=hs.lt;omega
 obtain⟨i,W,K,r,s,k2,u⟩:=f7 (e1:=mV 0) (e2:=mK (.int 12)) (ρ:=eG k n B.length [none,none,none]) (m:=12) (Kp.grow k1.st [[]]).st rfl rfl (by decide) (by decide);have g1:W[B.length]? =ar (([]:List (List Int)).map tupI):=(k2.oth B.length (by simp) (by omega)).trans cN;obtain⟨O,H,J,acc,Z,N,g3,Y,U,k3⟩:=G0 (n:=n) (its:=bc 0 i.toNat) L (by omega) (by omega) (ey i.toNat) [] W none none none (by rw[OD];simp;omega) (λt X=>by cases X) g1 ((Kp.grow k1.st [[]]).trans k2);rw[OD]at U;have C:acc.length<=18:=by simp at U;omega
 have w:WebOk n (eZ acc):=⟨λt X=>Y t (sO.mp X),kl acc,by have:=iY acc;omega⟩;have P:vA (aH (az ay (ae (mV 0) (ae (mK (.int 12)) aq)))) (eG k n B.length [none,none,none]) (B++[[]])=ar (.ok ⟨bc 0 i.toNat,.none⟩,W):=by rw[Jl K,CU (by omega)];rfl
 have I:aP bB (mK (.int 8)) (aH (az ay (ae (mV 0) (ae (mK (.int 7)) aq)))) [ar (.lst k),none,none,none,none,none] S=ar (.ok (.int n),B):=by rw[gi (f:=bB) (x:=.int 8) (S1:=S) rfl T, <-A];rfl
 have R:aH (cm iT (mV 2)) (eG k n B.length [O,H,J]) Z=ar (.ok (.fz ((eZ acc).map tupI)),Z):=by
  refine qF ((sF (x:=.lst B.length) (S1:=Z) rfl).trans ?_) (Kp.refl k3.st) rfl (fw _);show(getL B.length>>=λxs=>match rowsOf xs with|some nss=>bX nss|none=>M.fail) Z=_;rw[aK (ft g3),gS];have X:Iv acc=true:=NT.mpr λx G=>by rw[Y.two x G];rfl
  show bX acc Z=_;unfold bX;rw[if_pos ⟨Nz C (by decide),X⟩];exact eQ (by rw[Nt];have:=iY acc;unfold lim;omega)
 have hm:eA [ar (.lst k),none,none,none,none,none] S=ar (.ok (.ret (cJ n (eZ acc))),Z):=by unfold eA;refine(aL (bN I)).trans ((aL (bN (eQ (S:=B) (us:=[]) (NN _)))).trans ((aL (FS P N)).trans (gI (um (x:=.int n) (S1:=Z) rfl ((sF R).trans ?_)))));rw[qh (by rw[Nt];have:=iY acc;unfold lim;omega)];rfl
 obtain⟨S1,Q,F⟩:=zj (c:=bS [.lst k]) (d:=cJ n (eZ acc)) hs (fK (o:=.ret (cJ n (eZ acc))) hm rfl) (k1.trans k3) qE;exact⟨n,_,S1,Q,by omega,by omega,w,by have:=iY acc;omega,F⟩
end
def nS:du:=bM (IC (eF jv (mV 4) (aH (bb (ae (mK (.int 12)) aq)))) (aH (aP bB (mV 4) (aH (bb (ae (nO dr (mV 1)) (ae (nO c_ (mV 1)) aq)))))) (mV 4))
def m_find:du:=aG (iU (cA (bV (CC (mV 1)))) (bM (mK .non)) dN) (aG (bx 4 (aH (bF (vA (mK (.int 13))) (gN 0) b8 b9 [none,ar 3]))) nS)
def iF:du:=aG (bx 3 (bb (ae (de (mV 1) "NoWeb") (ae (de (mV 1) "NoPlace") (ae (de (mV 1) "NoPlaces") aq))))) (aG (bx 3 (aP bB (mV 3) (aH (bb (ae (de (mV 1) "NoMap") (ae (de (mV 1) "NoSharing") (ae (de (mV 1) "NoRoot") aq))))))) (aG (bx 3 (aP bB (mV 3) (aH (bb (ae (de (mV 1) "NoNumber") (ae (de (mV 1) "NotJoined") (ae (de (mV 1) "NoTie") aq))))))) (aG (bx 3 (aP bB (mV 3) (aH (bb (ae (de (mV 1) "NoText") (ae (de (mV 1) "NoLine") (ae (de (mV 1) "NoDeed") aq))))))) (aG (vB (uS cI (mV 3) (de (mV 1) "TooGreat"))) m_find))))
theorem DE(f:D)(c:M D):fu f c=aG (bx 1 (mK .non)) (aG (vJ 0 2 1 f c) iF):=rfl
theorem AX(f g x:D):(iF [ar f,ar x,none,none,none]>>=outD)=(iF [ar g,ar x,none,none,none]>>=outD):=by unfold iF m_find nS;simp only[aG,bx,vB,iU,bM,dN,mV,mK,bb,aP,uS,de,CC,IC,cA,bV,eF,ae,aq,az,cm,bF,aH,nO,vA,KW,BF,gx,aj,FK,K2,K3,K4,K5,K6,List.set_cons_succ,List.set_cons_zero,outD,ky,R_,List.map_nil,Option.bind,List.getElem?_cons_succ,List.getElem?_cons_zero,Option.join]
theorem DF(f:D)(c:M D):bD f c []=qD c (λx=>iF [ar f,ar x,none,none,none]>>=outD):=by
 funext S;unfold bD rZ;rw[if_pos (show[f].length=1 from rfl)];show((fu f c [ar f,none,none,none,none])>>=outD) S=_;rw[DE,aS (ρ':=[ar f,ar .non,none,none,none]) rfl];have Z:vJ 0 2 1 f c [ar f,ar .non,none,none,none]=Ct 2 1 c [ar f,ar .non,none,none,none]:=by unfold vJ;exact if_pos rfl
 show((vJ 0 2 1 f c [ar f,ar .non,none,none,none]>>=λo=>BF o iF)>>=outD) S=_;rw[Z,gx];show M.bnd (Ct 2 1 c [ar f,ar .non,none,none,none]) _ S=_;unfold M.bnd Ct qD;cases h:c S with
 |none=>rfl
 | some p=>
  obtain⟨r,S1⟩:=p;cases r with
  |ok a=>rfl
  | ex x=>
   cases x with
   |exc n ds=>
    dsimp only;by_cases hn:n∈aY
    ·rw[if_pos hn,if_pos hn];rfl
    ·rw[if_neg hn,if_neg hn]
   |_=>rfl
theorem eT:∀f c es,bD f c es=bw c es:=by
 intro f c es;unfold bw;cases es with
 |nil=>
  rw[DF,DF];congr 1;funext x;exact AX _ _ x
 |cons e es=>
  unfold bD rZ;rw[if_neg (by simp),if_neg (by simp)]
section
variable {f:D}{n:Str}{ds:List D}{S G:aB}{p:Nat}{xs:List D}{z:Option D}
theorem oJ(Z:n∈aY)(a:Str):de (mV 1) a [ar f,ar (.exc n ds),none,z,none]=aw (.bl (cD n a)):=Du (ds:=ds) (g:=λn=>cD n a) Z
theorem three(Z:n∈aY)(a b c:Str):ae (de (mV 1) a) (ae (de (mV 1) b) (ae (de (mV 1) c) aq)) [ar f,ar (.exc n ds),none,z,none]=aw [.bl (cD n a),.bl (cD n b),.bl (cD n c)]:=
 aR (oJ Z a) (aR (oJ Z b) (aR (oJ Z c) rfl))
theorem qH(Z:n∈aY)(a b c:Str)(W:(S++G)[p]? =ar xs)(U:xs.length<=100):∃p' G',bx 3 (aP bB (mV 3) (aH (bb (ae (de (mV 1) a) (ae (de (mV 1) b) (ae (de (mV 1) c) aq)))))) [ar f,ar (.exc n ds),none,ar (.lst p),none] (S++G)=ar (.ok (.nx [ar f,ar (.exc n ds),none,ar (.lst p'),none]),S++G')/\(S++G')[p']? =ar (xs++[.bl (cD n a),.bl (cD n b),.bl (cD n c)])/\S.length<=p':=by
 refine⟨(S++G).length,G++[xs++[.bl (cD n a),.bl (cD n b),.bl (cD n c)]],?_,by rw[<-NZ];exact cN,by rw[Nr];omega⟩;have X:aH (bb (ae (de (mV 1) a) (ae (de (mV 1) b) (ae (de (mV 1) c) aq)))) [ar f,ar (.exc n ds),none,ar (.lst p),none]=aw (.fz [.bl (cD n a),.bl (cD n b),.bl (cD n c)]):=by show iH (ae _ _ _>>=bp)=_;rw[three Z a b c,aj];exact bJ rfl K1
 have Y:=cG (f:=bB) (m:=mV 3) (ρ:=[ar f,ar (.exc n ds),none,ar (.lst p),none]) (x:=.lst p) rfl X;show((aP bB _ _ _)>>=λx=>aw (Out.nx _)) _=_;rw[Y,aK (a:=.lst (S++G).length) (S1:=S++(G++[xs++[.bl (cD n a),.bl (cD n b),.bl (cD n c)]]))]
 ·rfl
 ·show(getL p>>=λxs=>bp (xs++_)) _=_;rw[aK (a:=xs) (S1:=S++G) (by unfold getL;rw[W];rfl)];unfold bp;rw[if_pos (by rw[Nr];show xs.length+3<=lim;unfold lim;omega),NZ]
end
theorem find_eq{f:D}{n:Str}{ds:List D}{S:aB}{p:Nat}{bs:List Bool}(X:n∈aY)(N:S[p]? =ar (bs.map D.bl))(K:bs.length=13):
  m_find [ar f,ar (.exc n ds),none,ar (.lst p),none] S=nS [ar f,ar (.exc n ds),none,ar (.lst p),ar (.fz ((bc 0 13).filter (xQ bs)))] S:=by
 have Y:iU (cA (bV (CC (mV 1)))) (bM (mK .non)) dN [ar f,ar (.exc n ds),none,ar (.lst p),none]=aw (.nx [ar f,ar (.exc n ds),none,ar (.lst p),none]):=by
  have:cA (bV (CC (mV 1))) [ar f,ar (.exc n ds),none,ar (.lst p),none]=aw false:=by show((vG (λ_=>c_) (.exc n ds)>>=iZ)>>=_)=_;rw[Du X];rfl
  exact(dz this).trans (if_neg (by decide))
 unfold m_find;rw[aS Y];have R:vA (mK (.int 13)) [ar f,ar (.exc n ds),none,ar (.lst p),none]=aw ⟨bc 0 13,.none⟩:=(uj (x:=.int 13) rfl).trans (CU (by omega));have T:cy ⟨bc 0 13,.none⟩ (gN 0) b8 b9 (bc 0 13) [none,ar (.lst p)] S=ar (.ok ((bc 0 13).filter (xQ bs)),S):=by
  refine vY (λρ=>∃x,ρ=[x,ar (.lst p)]) (xQ bs) _ _ ⟨none,rfl⟩ λd hd ρ ⟨x,hρ⟩=>?_;subst hρ;obtain⟨k,U,rfl⟩:=N8.mp hd;have U:k<13:=N1.mp U;refine⟨_,rfl,⟨_,rfl⟩,?_,rfl⟩;have e:iI (bs.map D.bl) (0+(k:Int))=ar (.bl (bs.getD k dr)):=by
   rw[QQ];unfold iI wV;rw[Nt];have Y:¬ ((k:Int)<0):=by omega
   have L:(k:Int)<bs.length:=by omega
   have P:k<bs.length:=by omega
   simp[Y,L,P]
  show((getL p>>=λxs=>match iI xs (0+(k:Int))with|some d=>(aw d:M D)|none=>M.fail)>>=iZ) S=_;rw[aK (a:=D.bl (bs.getD k dr)) (S1:=S)]
  ·show ar (Res.ok (bs.getD k dr),S)=ar (.ok (bs.getD (0+(k:Int)).toNat dr),S);rw[QQ,OB]
  ·rw[aK (a:=bs.map D.bl) (S1:=S) (by unfold getL;rw[N];rfl),e];rfl
 have hm:bF (vA (mK (.int 13))) (gN 0) b8 b9 [none,ar 3] [ar f,ar (.exc n ds),none,ar (.lst p),none] S=bp ((bc 0 13).filter (xQ bs)) S:=by unfold bF;rw[R,aj];unfold fN;rw[if_pos (by show(bc 0 13).length<=lim;unfold bc lim;rw[Nt,OD];omega)];exact aK T
 have O:iH (bF (vA (mK (.int 13))) (gN 0) b8 b9 [none,ar 3] [ar f,ar (.exc n ds),none,ar (.lst p),none]) S=ar (.ok (.fz ((bc 0 13).filter (xQ bs))),S):=by
  have Z:cn 0 ((bc 0 13).filter (xQ bs))=true:=by
   have:∀l:List Nat,cn 0 ((l.map λi:Nat=>D.int (0+(i:Int))).filter (xQ bs))=true:=λl=>by
    induction l with
    |nil=>rfl
    |cons x l ih=>
     rw[NI,List.filter_cons];split
     ·unfold cn;rw[ih];unfold fy;rfl
     ·exact ih
   exact this _
  have X:bp ((bc 0 13).filter (xQ bs)) S=ar (.ok (.lst S.length),S++[(bc 0 13).filter (xQ bs)]):=by unfold bp;exact if_pos (Nz (Py _ _) (by unfold bc lim;rw[Nt,OD];omega))
  obtain⟨d,W,e,rfl,rfl⟩:=vT (Q:=λd W=>d= .fz ((bc 0 13).filter (xQ bs))/\W=S) ⟨_,_,hm.trans X,[(bc 0 13).filter (xQ bs)],S.length,_,rfl,rfl,cN,Nu _,jf (NN _) _ Z,rfl,rfl⟩;exact e
 show(bx 4 _ _>>=λo=>BF o nS) S=_;rw[aK (a:=.nx [ar f,ar (.exc n ds),none,ar (.lst p),ar (.fz ((bc 0 13).filter (xQ bs)))]) (S1:=S)]
 ·rfl
 ·show(iH _>>=_) S=_;rw[aK O];rfl
def marks(n:Str):List Bool:=[cD n "NoWeb",cD n "NoPlace",cD n "NoPlaces",cD n "NoMap",cD n "NoSharing",cD n "NoRoot",cD n "NoNumber",cD n "NotJoined",cD n "NoTie",cD n "NoText",cD n "NoLine",cD n "NoDeed",cD n "TooGreat"]
theorem DG{f:D}{n:Str}{ds:List D}{us:List D}{v:D}(Y:n∈aY)(U:(bc 0 13).filter (xQ (marks n))=us)(W:∀p,nS [ar f,ar (.exc n ds),none,ar (.lst p),ar (.fz us)]=aw (.ret v))(S:aB):
  runs (iF [ar f,ar (.exc n ds),none,none,none]>>=outD) S λd L=>d=v/\∃G,L=S++G:=by
 have P:bx 3 (bb (ae (de (mV 1) "NoWeb") (ae (de (mV 1) "NoPlace") (ae (de (mV 1) "NoPlaces") aq)))) [ar f,ar (.exc n ds),none,none,none] S=ar (.ok (.nx [ar f,ar (.exc n ds),none,ar (.lst S.length),none]),S++[[.bl (cD n "NoWeb"),.bl (cD n "NoPlace"),.bl (cD n "NoPlaces")]]):=by show((ae _ _ _>>=bp)>>=λx=>aw (Out.nx _)) S=_;rw[three Y,aj,aK (eQ (us:=[.bl (cD n "NoWeb"),.bl (cD n "NoPlace"),.bl (cD n "NoPlaces")]) K1)];rfl
 obtain⟨I,H,e2,g2,E⟩:=qH (f:=f) (ds:=ds) (S:=S) Y "NoMap" "NoSharing" "NoRoot" (cN (S:=S) (xs:=[.bl (cD n "NoWeb"),.bl (cD n "NoPlace"),.bl (cD n "NoPlaces")])) (by decide:3<=100);obtain⟨F,C,J,g3,B⟩:=qH (f:=f) (ds:=ds) (S:=S) Y "NoNumber" "NotJoined" "NoTie" g2 (by decide:6<=100);obtain⟨Z,X,K,T,O⟩:=qH (f:=f) (ds:=ds) (S:=S) Y "NoText" "NoLine" "NoDeed" g3 (by decide:9<=100);have Q:=(Nx.mp T).1;have N:vB (uS cI (mV 3) (de (mV 1) "TooGreat")) [ar f,ar (.exc n ds),none,ar (.lst Z),none] (S++X)=ar (.ok (.nx [ar f,ar (.exc n ds),none,ar (.lst Z),none]),(S++X).set Z ((marks n).map D.bl)):=by have hm:=GU (f:=cI) (e1:=mV 3) (ρ:=[ar f,ar (.exc n ds),none,ar (.lst Z),none]) (x:=.lst Z) rfl rfl (oJ (f:=f) (ds:=ds) (z:=ar (.lst Z)) Y "TooGreat");refine sE (x:=.non) ((NX hm _).trans ?_);rw[aj];show(getL Z>>=λxs=>kG Z (xs++[.bl (cD n "TooGreat")])) _=_;rw[aK (ft T)];exact kg (by show 13<=lim;unfold lim;omega) Q
 have R:=find_eq (f:=f) (ds:=ds) (S:=(S++X).set Z ((marks n).map D.bl)) (p:=Z) (bs:=marks n) Y (N9 Q) rfl;rw[U,W]at R;refine⟨v,(S++X).set Z ((marks n).map D.bl),?_,rfl,X.set (Z - S.length) ((marks n).map D.bl),Pz _ _ O⟩;rw[aK (a:=Out.ret v) (S1:=(S++X).set Z ((marks n).map D.bl))]
 ·rfl
 ·unfold iF;exact(aL P).trans ((aL e2).trans ((aL J).trans ((aL K).trans ((aL N).trans R))))
theorem FV{n:Str}{ds us:List D}{v:D}(X:n∈aY)(Y:(bc 0 13).filter (xQ (marks n))=us)(Z:∀f p,nS [ar f,ar (.exc n ds),none,ar (.lst p),ar (.fz us)]=aw (.ret v))(S:aB):
  runs (bw (M.raise (.exc n ds)) []) S λd W=>d=v/\∃G,W=S++G:=by
 unfold bw;rw[DF];have:qD (M.raise (.exc n ds)) (λx=>iF [ar (.fn 0 0 "" [] []),ar x,none,none,none]>>=outD)=(iF [ar (.fn 0 0 "" [] []),ar (.exc n ds),none,none,none]>>=outD):=by funext S;show(if n∈aY then _ else none)=_;rw[if_pos X]
 rw[this];exact DG X Y (Z _) S
theorem AY{n:Str}{ds us:List D}{v:D}(X:n∈aY)(Y:(bc 0 13).filter (xQ (marks n))=us)(Z:∀f p,nS [ar f,ar (.exc n ds),none,ar (.lst p),ar (.fz us)]=aw (.ret v))(W:fy 0 v=c_):
  iH (bw (M.raise (.exc n ds)) [])=aw v:=GR W (FV X Y Z)
theorem eq_12{f x:D}{p:Nat}{k:Int}:eF jv (mV 4) (aH (bb (ae (mK (.int 12)) aq))) [ar f,ar x,none,ar (.lst p),ar (.fz [.int k])]=aw (decide (k=12)):=by
 have Z:aH (bb (ae (mK (.int 12)) aq)) [ar f,ar x,none,ar (.lst p),ar (.fz [.int k])]=aw (.fz [.int 12]):=bJ (us:=[.int 12]) rfl (by show 1<=lim;unfold lim;omega);refine bY (x:=.fz [.int k]) rfl Z (bH λS=>?_);unfold jv;refine(eP (p:=.list [.int k]) (q:=.list [.int 12]) rfl rfl).mpr ⟨?_,rfl⟩;have:g8 (.list [.int k]) (.list [.int 12])=decide (k=12):=by rw[OZ];simp[g8,kT]
 rw[this]
theorem Lo{f x:D}{p:Nat}{k:Int}(h:k≠12):nS [ar f,ar x,none,ar (.lst p),ar (.fz [.int k])]=aw (.ret (.fz [.int k])):=by refine dX ?_;show(eF jv _ _ _>>=_)=_;rw[eq_12,aj,if_neg (by rw[Od];exact h)];rfl
def oD:Option Nat->D
 |some k=>.int k
 |none=>.non
abbrev asc(l:List Nat):Prop:=∀c∈l,c<128
def wj:List Nat:=[48,49,50,51,52,53,54,55,56,57]
theorem zv:("0123456789":Str)=st wj:=by decide+kernel
theorem nq:("0":Str)=st [48]:=by decide+kernel
theorem zw{c:Nat}:decide (c∈wj)=decide (48<=c/\c<=57):=by rw[OZ,Od,Od];unfold wj;simp;omega
theorem Js{l:List Nat}{r:List (Option D)}(Y:asc l)(U:l.length<=2):cm pD (aH (bF (AK (mV 0)) (gN 0) dh di [none])) (ar (.str (st l))::r)=aw (.bl (l.all λc=>decide (48<=c/\c<=57))):=by
 have X:AK (mV 0) (ar (.str (st l))::r)=aw ⟨l.map λc=>D.str (st [c]),.none⟩:=by
  show CL (.str (st l))=_;show(if (st l).cps.all (· <128)=c_ then (aw ⟨jg (st l),.none⟩:M Iter)else M.fail)=_;rw[if_pos]
  ·rfl
  ·show l.toArray.all _=c_;rw[Rp,NT];exact λc Z=>NJ (Y c Z)
 have Z:=CZ (l:=l) (mk:=λc=>D.str (st [c])) (f:=λc=>D.bl (decide (48<=c/\c<=57))) (mi:=AK (mV 0)) (g:=gN 0) (t:=dh) (m:=di) (js:=[none]) (ρ:=ar (.str (st l))::r)
  (λρ=>∃x,ρ=[x]) (λ_=>c_) X (by unfold lim;omega) ⟨none,rfl⟩ (λc Z ρ ⟨x,hρ⟩=>by subst hρ;refine⟨[ar (.str (st [c]))],rfl,⟨_,rfl⟩,rfl,λ_=>?_⟩;refine(cG (x:=.str (st [c])) (y:=.str ("0123456789":Str)) rfl rfl).trans ?_;show aw (D.bl (!(i_ ("0123456789":Str) (st [c]) 0 ("0123456789":Str).length 1).isEmpty))=_;rw[show(!(i_ ("0123456789":Str) (st [c]) 0 ("0123456789":Str).length 1).isEmpty)=_ from StrLaws.found_one _ c,show("0123456789":Str).cps.toList=wj from Of cp zv,zw])
  (by rw[cq];have:=uk (l.map λc=>decide (48<=c/\c<=57));rw[N0]at this;exact this)
 rw[cq]at Z;refine(e9 Z).trans ?_;have W:(l.map λc=>D.bl (decide (48<=c/\c<=57)))=(l.map λc=>decide (48<=c/\c<=57)).map D.bl:=by rw[N0];rfl
 rw[W,uo,Qk];rfl
theorem uG{l:List Nat}{e:TM}{ρ:aI}(h:e ρ=aw (.str (st l)))(Z:l.length<=10000):cm jt e ρ=aw (.int l.length):=by rw[e9 h];show(if (st l).length<=10000 then (aw (D.int (st l).length):M D)else M.fail)=_;rw[dY,if_pos Z]
theorem AZ{l:List Nat}(S:asc l)(N:l.length<=10000):bK [.str (st l)]=aw (oD (sH l)):=by
 unfold bK iy;have X:gG nF nF (mK (.int 1)) (cm jt (mV 0)) (mK (.int 2)) [ar (.str (st l))]=aw (decide ((1:Int)<=l.length) && decide ((l.length:Int)<=2)):=sG rfl (uG rfl N) rfl;by_cases h2:1<=l.length/\l.length<=2
 ·have e1:(decide ((1:Int)<=l.length) && decide ((l.length:Int)<=2))=true:=by rw[OA,Od,Od];omega
  rw[e1]at X;have Z:=fD (p:=cA (gG nF nF (mK (.int 1)) (cm jt (mV 0)) (mK (.int 2)))) (not_eq X) (λ_=>Nl (Js (r:=[]) S h2.2));by_cases hf:(l.all λc=>decide (48<=c/\c<=57))=c_
  ·rw [hf]at Z;have Y:eF BM (cm jt (mV 0)) (mK (.int 1)) [ar (.str (st l))]=aw (decide ((1:Int)<l.length)):=bY (uG rfl N) (y:=.int 1) rfl rfl
   match l,h2,hf,Z,Y,S with
   | [a],h2,hf,Z,Y,S=>
    have hf:48<=a/\a<=57:=by simpa using hf
    have e2:sH [a]=ar (a - 48):=if_pos hf;obtain⟨T,P⟩:=m6 e2;have W:cm nP (mV 0) [ar (.str (st [a]))]=aw (.int ((a - 48:Nat):Int)):=by
     rw[e9 (x:=.str (st [a])) rfl];have Q:PySem.intText? (st [a])=ar ((a - 48:Nat):Int):=by rw[P];exact Da _ T
     show(match PySem.intText? (st [a])with|some k=>if (st [a]).length<=640 then (aw (D.int k):M D)else M.fail|none=>M.fail)=_;rw[Q];rfl
    refine cS (o:=.ret (.int ((a - 48:Nat):Int))) ?_ (by rw[e2];rfl);exact(aS (fE Z)).trans ((aS (fE (xN (c:=dr) Y (λz=>by cases z)))).trans (dX W))
   | [a,b],h2,hf,Z,Y,S=>
    have hf:(48<=a/\a<=57)/\(48<=b/\b<=57):=by simpa using hf
    have R:aP iV (mV 0) (mK (.int 0)) [ar (.str (st [a,b]))]=aw (.str (st [a])):=(cG (x:=.str (st [a,b])) (y:=.int 0) rfl rfl).trans rfl;have L:eF jv (aP iV (mV 0) (mK (.int 0))) (mK (.str ("0":Str))) [ar (.str (st [a,b]))]=aw (decide ([a]=[48])):=bY R (y:=.str ("0":Str)) rfl (by rw[nq];exact MI (λc O=>by rw[NV.mp O];omega) (by decide));have U:=xN Y (λ_=>L);by_cases h0:a=48
    ·subst h0;refine cS (o:=.ret .non) ?_ (by rw[show sH [48,b]=none by show(if 49<=48/\48<=57/\48<=b/\b<=57 then ar ((48 - 48)*10+(b - 48))else none)=none;exact if_neg (by omega)];rfl);exact(aS (fE Z)).trans (cO (iw U rfl))
    ·have e2:sH [a,b]=ar ((a - 48)*10+(b - 48)):=if_pos (by omega);obtain⟨T,P⟩:=m6 e2;rw[show(decide ((1:Int)<([a,b]:List Nat).length) && decide ([a]=[48]))=dr by rw[NQ (show ¬ [a]=[48] by simpa using h0),QV]]at U;have W:cm nP (mV 0) [ar (.str (st [a,b]))]=aw (.int (((a - 48)*10+(b - 48):Nat):Int)):=by
      rw[e9 (x:=.str (st [a,b])) rfl];have Q:PySem.intText? (st [a,b])=ar (((a - 48)*10+(b - 48):Nat):Int):=by rw[P];exact Da _ T
      show(match PySem.intText? (st [a,b])with|some k=>if (st [a,b]).length<=640 then (aw (D.int k):M D)else M.fail|none=>M.fail)=_;rw[Q];rfl
     refine cS (o:=.ret (.int (((a - 48)*10+(b - 48):Nat):Int))) ?_ (by rw[e2];rfl);exact(aS (fE Z)).trans ((aS (fE U)).trans (dX W))
  ·have hf:(l.all λc=>decide (48<=c/\c<=57))=false:=by simpa using hf
   rw[hf]at Z;have e2:sH l=none:=by
    cases h:sH l with
    |none=>rfl
    |some k=>
     obtain⟨T,e⟩:=m6 h;rw[e]at hf;rw[NT.mpr λc O=>NJ (Dc k T c O)]at hf;cases hf
   rw[e2];exact cS (o:=.ret .non) (cO (iw Z rfl)) rfl
 ·have e1:(decide ((1:Int)<=l.length) && decide ((l.length:Int)<=2))=false:=by
   rw[Bool.and_eq_false_iff,Rk,Rk];omega
  rw[e1]at X;have Z:=fD (p:=cA (gG nF nF (mK (.int 1)) (cm jt (mV 0)) (mK (.int 2)))) (q:=cA (bV (cm pD (aH (bF (AK (mV 0)) (gN 0) dh di [none]))))) (c:=c_) (not_eq X) (λz=>by cases z);have e2:sH l=none:=by
   cases h:sH l with
   |none=>rfl
   |some k=>
    obtain⟨T,e⟩:=m6 h;have:=eV k T;have K:1<=(dg k).length:=by unfold dg;split<;>simp
    rw[e]at h2;omega
  rw[e2];exact cS (o:=.ret .non) (cO (iw Z rfl)) rfl
def wd(t:List Int):List Nat:=dg (t.getD 0 0).toNat++45::dg (t.getD 1 0).toNat
def tl(E:List (List Int)):List Nat:=(E.map λt=>32::wd t).flatten
def og(n:Nat)(E:List (List Int)):List Nat:=dg n++58::tl E
theorem DH:∀ws:List (List Nat),jn [] ws=ws.flatten
 |[]=>rfl
 |[x]=>by simp[jn]
 |x::y::r=>by rw[kh,DH (y::r)];simp
theorem sR(c:Nat):∀(x:List Nat) (ws:List (List Nat)),jn [c] (x::ws)=x++(ws.map λw=>c::w).flatten
 |x,[]=>by simp[jn]
 |x,y::r=>by rw[kh,sR c y r];simp
theorem Lp(E:List (List Int)):tl E=jn [32] ([]::E.map wd):=by rw[sR,N0];rfl
theorem qI(n:Nat)(E:List (List Int)):og n E=jn [32] ((dg n++[58])::E.map wd):=by rw[sR,N0];unfold og tl;rw[NZ];rfl
theorem nu{n:Nat}(h:n<100):asc (dg n):=λc Z=>by have:=Dc n h c Z;omega
theorem qJ{n c:Nat}(h:n<100)(Z:c<48\/57<c):c∉dg n:=λz=>by have:=Dc n h c z;omega
theorem km{a b:List Nat}(X:asc a)(Z:asc b):asc (a++b):=λc Y=>(Oi.mp Y).elim (X c) (Z c)
theorem qK{x:Nat}{b:List Nat}(X:x<128)(Z:asc b):asc (x::b):=λc Y=>by
 rcases NB.mp Y with rfl|h
 ·exact X
 ·exact Z c h
section
variable {n:Nat}{E:List (List Int)}
theorem Jt(Y:n<=14)(w:WebOk n E){t:List Int}(Z:t∈E):∃a b:Nat,t=[(a:Int),(b:Int)]/\a<100/\b<100:=by obtain⟨a,b,rfl,h0,X,W⟩:=w.el t Z;exact⟨a.toNat,b.toNat,by rw[PN h0,PN (by omega)],by omega,by omega⟩
theorem JT{a b:Nat}:wd [(a:Int),(b:Int)]=dg a++45::dg b:=rfl
theorem Ju{a b:Nat}(Y:a<100)(Z:b<100):asc (wd [(a:Int),(b:Int)]):=km (nu Y) (qK (by decide) (nu Z))
theorem xT{a b:Nat}(Y:a<100)(Z:b<100):(wd [(a:Int),(b:Int)]).length<=5:=by rw[JT,Nr,NH];have:=eV a Y;have:=eV b Z;omega
theorem G1{a b:Nat}(Y:a<100)(Z:b<100):32∉wd [(a:Int),(b:Int)]:=λz=>by
 rw[JT,Oi,NB]at z;rcases z with z|z|z
 ·exact qJ Y (by decide) z
 ·cases z
 ·exact qJ Z (by decide) z
theorem Jv(h:∀t∈E,∃a b:Nat,t=[(a:Int),(b:Int)]/\a<100/\b<100):asc (tl E):=λc Z=>by unfold tl at Z;obtain⟨l,U,Z⟩:=List.mem_flatten.mp Z;obtain⟨t,X,rfl⟩:=N8.mp U;obtain⟨a,b,rfl,W,Y⟩:=h t X;exact qK (by decide) (Ju W Y) c Z
theorem uH(h:∀t∈E,∃a b:Nat,t=[(a:Int),(b:Int)]/\a<100/\b<100):(tl E).length<=E.length*6:=by
 induction E with
 |nil=>exact Nu _
 |cons t E ih=>
  obtain⟨a,b,rfl,X,Z⟩:=h t (.head _);have W:=ih λt Y=>h t (.tail _ Y);have U:=xT X Z;show(32::wd [(a:Int),(b:Int)]++tl E).length<=_;rw[Nr,NH,NH,Sx];omega
theorem uI(Z:n<100)(h:∀t∈E,∃a b:Nat,t=[(a:Int),(b:Int)]/\a<100/\b<100):asc (og n E):=km (nu Z) (qK (by decide) (Jv h))
theorem uJ(Z:n<100)(h:∀t∈E,∃a b:Nat,t=[(a:Int),(b:Int)]/\a<100/\b<100):(og n E).length<=3+E.length*6:=by unfold og;rw[Nr,NH];have:=eV n Z;have:=uH h;omega
theorem wk:("-":Str)=st [45]:=by decide+kernel
theorem nU:(" ":Str)=st [32]:=by decide+kernel
theorem wm:(":":Str)=st [58]:=by decide+kernel
theorem DI:("":Str)=st []:=by decide+kernel
theorem Jw{a b:List Nat}(X:asc a)(Z:asc b)(U:a.length+b.length<=9000)(Y:45∉a):d4 [.str (st (a++45::b))]=aw (.tup [oD (sH a),oD (sH b)]):=by
 unfold d4 jk;have W:cF jN (mV 0) (mK (.str ("-":Str))) [ar (.str (st (a++45::b))),none,none,none]=aw (.tup [.str (st a),.str (st [45]),.str (st b)]):=oH (c:=45) rfl (Of (λs:Str=>(aw (D.str s):M D)) wk) (ur Y) (by rw[Nr,NH];omega);refine cS (o:=.ret (.tup [oD (sH a),oD (sH b)])) ((aS (qi (ρ':=[ar (.str (st (a++45::b))),ar (.str (st a)),ar (.str (st [45])),ar (.str (st b))]) W rfl)).trans (dX (C6 ?_ ?_))) rfl
 ·exact lh ((b7 rfl).trans (AZ X (by omega)))
 ·exact lh ((b7 rfl).trans (AZ Z (by omega)))
theorem Lq{a b:Nat}(Z:a<100)(Y:b<100):d4 [.str (st (wd [(a:Int),(b:Int)]))]=aw (tupI [(a:Int),(b:Int)]):=by rw[JT,Jw (nu Z) (nu Y) (by have:=eV a Z;have:=eV b Y;omega) (qJ Z (by decide)),C9 a Z,C9 b Y];rfl
theorem A0(Z:n<=14)(w:WebOk n E):gM [cJ n E]=aw .non:=by rw[Jh Dt (zd w),if_pos (uC (by omega) (by omega) w)]
theorem DJ{ρ:aI}{e:TM}{k:Nat}(h:e ρ=aw (.int k))(Z:k<100):sy (ib (cm iO e) (ib (mK (.str (":":Str))) xK)) ρ=aw (.str (st (dg k++[58]))):=by refine(GW (sI (m7 h Z) (sI (e:=mK (.str (":":Str))) (s:=(":":Str)) rfl (js:=xK) rfl (by decide+kernel)) (by rw[dY];have:=eV k Z;omega))).trans ?_;show aw (D.str (ri++st (dg k)++(":":Str)))=_;rw[La,wm,kR]
theorem FW{ρ:aI}{e1 e2:TM}{a b:Nat}(X:e1 ρ=aw (.int a))(W:e2 ρ=aw (.int b))(Y:a<100)(Z:b<100):sy (ib (mK (.str (" ":Str))) (ib (cm iO e1) (ib (mK (.str ("-":Str))) (ib (cm iO e2) xK)))) ρ=aw (.str (st (32::wd [(a:Int),(b:Int)]))):=by have U:=eV a Y;have T:=eV b Z;refine(GW (sI (e:=mK (.str (" ":Str))) (s:=(" ":Str)) rfl (sI (m7 X Y) (sI (e:=mK (.str ("-":Str))) (s:=("-":Str)) rfl (sI (m7 W Z) (js:=xK) rfl (by rw[dY];omega)) (by decide+kernel)) (by rw[dY];omega)) (by decide+kernel))).trans ?_;show aw (D.str (ri++(" ":Str)++st (dg a)++("-":Str)++st (dg b)))=_;rw[nU,La,kR,wk,kR,kR,JT];simp
theorem DK(Y:n<=14)(w:WebOk n E):eY [cJ n E]=aw (.str (st (og n E))):=by
 have hf:=w.few;have he:∀t∈E,∃a b:Nat,t=[(a:Int),(b:Int)]/\a<100/\b<100:=λt Z=>Jt Y w Z;unfold eY kX;have W:=C0 (l:=E) (mk:=tupI) (f:=λt=>D.str (st (32::wd t))) (mi:=dM (mV 2)) (g:=fB 2 (bu (gN 0) (bu (gN 1) fV))) (t:=fT) (m:=fU) (js:=[none,none]) (ρ:=[ar (cJ n E),ar (.int n),ar (.tup (E.map tupI))])
  (λρ=>∃x y,ρ=[x,y]) (λ_=>c_) rfl (by unfold lim;omega) ⟨none,none,rfl⟩ (λt Z ρ ⟨x,y,hρ⟩=>by subst hρ;obtain⟨a,b,rfl,T,U⟩:=he t Z;exact⟨[ar (.int a),ar (.int b)],rfl,⟨_,_,rfl⟩,rfl,λ_=>FW rfl rfl T U⟩)
  (by rw[cq];have:=gq (E.map λt=>32::wd t);rw[N0]at this;exact this)
 rw[cq]at W;have S:cF fC (mK (.str ("":Str))) (aH (IS (bF (dM (mV 2)) (fB 2 (bu (gN 0) (bu (gN 1) fV))) fT fU [none,none]))) [ar (cJ n E),ar (.int n),ar (.tup (E.map tupI))]=aw (.str (st (tl E))):=by
  have:=join_eq (sep:=[]) (ws:=E.map λt=>32::wd t) (e1:=mK (.str ("":Str))) (Of (λs:Str=>(aw (D.str s):M D)) DI) (by rw[N0];exact W) (by have X:=uH he;unfold tl at X;rw[List.length_flatten]at X;rw[G3,Nat.mul_zero];omega)
  rw[this,DH];rfl
 have R:=uH he;refine xM (o:=.ret (.str (st (og n E)))) ((aS (K9 (lh ((b7 rfl).trans (A0 Y w))))).trans ((aS (qi (ρ':=[ar (cJ n E),ar (.int n),ar (.tup (E.map tupI))]) rfl rfl)).trans (dX ((eu (DJ rfl (by omega)) S (by rw[Nr];have:=eV n (by omega);show(dg n).length+1+_<=_;omega)).trans ?_)))) rfl;unfold og;rw[NZ];rfl
end
section
variable {n:Nat}{E:List (List Int)}{ρ:aI}{e:TM}
theorem DL{ws:List (List Nat)}(h:e ρ=aw (.fz (ws.map λw=>D.str (st w))))(Y:ws.length<=1000):aH (i3 e (oS (mK (.int 1))) oN) ρ=aw (.fz ((ws.drop 1).map λw=>D.str (st w))):=by
 have:i3 e (oS (mK (.int 1))) oN ρ=bp ((ws.drop 1).map λw=>D.str (st w)):=by show(e ρ>>=λx=>oS (mK (.int 1)) ρ>>=λlo=>oN ρ>>=λZ=>pB x lo Z)=_;rw[h,aj];show bp (S3.cutD (ws.map λw=>D.str (st w)) (ar 1) none)=_;rw[Ld,Rz]
 unfold aH;rw[this];exact bJ (gq _) (by rw[Nt,NO];unfold lim;omega)
theorem FX(Z:n<=14)(w:WebOk n E):d5 [cJ n E]=aw (.bl c_):=by rw[xP Dt (zd w),uC (by omega) (by omega) w]
theorem Jx(T:n<=14)(w:WebOk n E):cf [.str (st (og n E))]=aw (cJ n E):=by
 have hf:=w.few;have he:∀t∈E,∃a b:Nat,t=[(a:Int),(b:Int)]/\a<100/\b<100:=λt Y=>Jt T w Y;have hlen:=uJ (n:=n) (by omega) he;have Z:=uI (n:=n) (by omega) he;unfold cf gO;have P:cF jN (mV 0) (mK (.str (":":Str))) [ar (.str (st (og n E))),none,none,none,none]=aw (.tup [.str (st (dg n)),.str (st [58]),.str (st (tl E))]):=oH (c:=58) rfl (Of (λs:Str=>(aw (D.str s):M D)) wm) (ur (qJ (by omega) (by decide))) (by omega);have hs:aH (cF df (mV 3) (mK (.str (" ":Str)))) [ar (.str (st (og n E))),ar (.str (st (dg n))),ar (.str (st [58])),ar (.str (st (tl E))),none]=aw (.fz (([]::E.map wd).map λw=>D.str (st w))):=by
  have R:=jP (e1:=mV 3) (e2:=mK (.str (" ":Str))) (ρ:=[ar (.str (st (og n E))),ar (.str (st (dg n))),ar (.str (st [58])),ar (.str (st (tl E))),none]) (l:=tl E) (c:=32) (ws:=[]::E.map wd) rfl (Of (λs:Str=>(aw (D.str s):M D)) nU)
   (by
    rw[Lp];refine v9 (OK _ _) λx W=>?_;rcases NB.mp W with rfl|W
    ·exact Qv
    ·obtain⟨t,Y,rfl⟩:=N8.mp W;obtain⟨a,b,rfl,U,X⟩:=he t Y;exact G1 U X)
   (by have:=uH he;omega) (by rw[NH,Nt];omega)
  unfold aH;rw[R];exact bJ (gq _) (by rw[Nt,NH,Nt];unfold lim;omega)
 have hd:=DL hs (by rw[NH,Nt];omega);have S:=C0 (l:=E) (mk:=λt=>D.str (st (wd t))) (f:=tupI) (mi:=dM (aH (i3 (aH (cF df (mV 3) (mK (.str (" ":Str))))) (oS (mK (.int 1))) oN))) (g:=gN 0) (t:=dI) (m:=dJ) (js:=[none]) (ρ:=[ar (.str (st (og n E))),ar (.str (st (dg n))),ar (.str (st [58])),ar (.str (st (tl E))),none])
  (λρ=>∃x,ρ=[x]) (λ_=>c_) (by
   unfold dM;rw[hd,aj,J_,Pk,N0];rfl) (by unfold lim;omega) ⟨none,rfl⟩ (λt Y ρ ⟨x,hρ⟩=>by
   subst hρ;obtain⟨a,b,rfl,U,X⟩:=he t Y;exact⟨[ar (.str (st (wd [(a:Int),(b:Int)])))],rfl,⟨_,rfl⟩,rfl,λ_=>lh ((b7 rfl).trans (Lq U X))⟩)
  (by rw[cq];exact fw E)
 rw[cq]at S;have Q:jJ (ae (aH (az bK (ae (mV 1) aq))) (ae (cm da (aH (IS (bF (dM (aH (i3 (aH (cF df (mV 3) (mK (.str (" ":Str))))) (oS (mK (.int 1))) oN))) (gN 0) dI dJ [none])))) aq)) [ar (.str (st (og n E))),ar (.str (st (dg n))),ar (.str (st [58])),ar (.str (st (tl E))),none]=aw (cJ n E):=by refine C6 (lh ((b7 rfl).trans ((AZ (nu (by omega)) (by have:=eV n (by omega);omega)).trans ?_))) ((e9 S).trans (qh (by rw[Nt];unfold lim;omega)));rw[C9 n (by omega)];rfl
 have O:mW (cA (bV (aH (az d5 (ae (mV 4) aq))))) (eF gU (aH (az eY (ae (mV 4) aq))) (mV 0)) [ar (.str (st (og n E))),ar (.str (st (dg n))),ar (.str (st [58])),ar (.str (st (tl E))),ar (cJ n E)]=aw false:=
  fD (b:=dr) (nb (lh ((b7 rfl).trans (FX T w)))) λ_=>bY (lh ((b7 rfl).trans (DK T w))) (y:=.str (st (og n E))) rfl (by rw[Lc Z Z,NJ rfl];rfl)
 exact xM (o:=.ret (cJ n E)) ((aS (fE (nb (e:=fq (mV 0) "str") rfl))).trans ((aS (qi (ρ':=[ar (.str (st (og n E))),ar (.str (st (dg n))),ar (.str (st [58])),ar (.str (st (tl E))),none]) P rfl)).trans ((aS (ji Q)).trans ((aS (fE O)).trans (dX rfl))))) rfl
theorem DM:∀{E:List (List Int)},(∀t∈E,∃a b:Nat,t=[(a:Int),(b:Int)]/\a<100/\b<100)->((E.map wd).map nC).sum<=E.length*5
 |[],_=>Nu _
 |t::E,he=>by
  obtain⟨a,b,rfl,X,Z⟩:=he t (.head _);have W:=DM (λt Y=>he t (.tail _ Y));have U:=xT X Z;rw[NI,NI,Rl,NH,Sx];omega
theorem DN{r:List (Option D)}{Y a1 Z:Option D}(O:n<=14)(w:WebOk n E):cF fC (mK (.str (" ":Str))) (aH (aP bB (aH (bb (ae (aP dQ (cm iO (aP cz (mV 3) (mK (.int 0)))) (mK (.str (":":Str)))) aq))) (aH (bF (dM (aP cz (mV 3) (mK (.int 1)))) (fB 2 (bu (gN 0) (bu (gN 1) fV))) jR jS [none,none])))) (Y::a1::Z::ar (cJ n E)::r)=aw (.str (st (og n E))):=by
 have hf:=w.few;have he:∀t∈E,∃a b:Nat,t=[(a:Int),(b:Int)]/\a<100/\b<100:=λt X=>Jt O w X;have hlen:=uJ (n:=n) (by omega) he;have ln:=eV n (by omega);have Q:aP dQ (cm iO (aP cz (mV 3) (mK (.int 0)))) (mK (.str (":":Str))) (Y::a1::Z::ar (cJ n E)::r)=aw (.str (st (dg n++[58]))):=eu (m7 rfl (by omega)) (Of (λs:Str=>(aw (D.str s):M D)) wm) (by show _+1<=_;omega);have R:aH (bb (ae (aP dQ (cm iO (aP cz (mV 3) (mK (.int 0)))) (mK (.str (":":Str)))) aq)) (Y::a1::Z::ar (cJ n E)::r)=aw (.fz [.str (st (dg n++[58]))]):=things (aR Q (es:=aq) rfl) rfl (by show 1<=50;decide);have W:=CZ (l:=E) (mk:=tupI) (f:=λt=>D.str (st (wd t))) (mi:=dM (aP cz (mV 3) (mK (.int 1)))) (g:=fB 2 (bu (gN 0) (bu (gN 1) fV))) (t:=jR) (m:=jS) (js:=[none,none]) (ρ:=Y::a1::Z::ar (cJ n E)::r)
  (λρ=>∃x y,ρ=[x,y]) (λ_=>c_) rfl (by unfold lim;omega) ⟨none,none,rfl⟩ (λt X ρ ⟨x,y,hρ⟩=>by subst hρ;obtain⟨a,b,rfl,S,U⟩:=he t X;have K:=eV a S;have L:=eV b U;refine⟨[ar (.int a),ar (.int b)],rfl,⟨_,_,rfl⟩,rfl,λ_=>?_⟩;refine(eu (eu (m7 (e:=mV 0) rfl S) (Of (λs:Str=>(aw (D.str s):M D)) wk) (by show _+1<=_;omega)) (m7 (e:=mV 1) rfl U) (by rw[Nr];show _+1+_<=_;omega)).trans ?_;rw[JT,NZ];rfl)
  (by rw[cq];have:=gq (E.map wd);rw[N0]at this;exact this)
 rw[cq]at W;have N:aH (aP bB (aH (bb (ae (aP dQ (cm iO (aP cz (mV 3) (mK (.int 0)))) (mK (.str (":":Str)))) aq))) (aH (bF (dM (aP cz (mV 3) (mK (.int 1)))) (fB 2 (bu (gN 0) (bu (gN 1) fV))) jR jS [none,none]))) (Y::a1::Z::ar (cJ n E)::r)=aw (.fz (((dg n++[58])::E.map wd).map λw=>D.str (st w))):=by
  unfold aH at R W⊢;show iH (aP bB _ _ _)=_;rw[cG R W];have T:(((dg n++[58])::E.map wd).map λw=>D.str (st w))=[D.str (st (dg n++[58]))]++(E.map λt=>D.str (st (wd t))):=by rw[NI,N0];rfl
  rw[T];exact bJ (by rw[<-T];exact gq _) (by rw[Nr,Nt];show 1+_<=lim;unfold lim;omega)
 have P:=join_eq (sep:=[32]) (ws:=(dg n++[58])::E.map wd) (e1:=mK (.str (" ":Str))) (Of (λs:Str=>(aw (D.str s):M D)) nU) N (by have:=DM he;rw[NI,Rl,NH,Nt,Nr];show _+1+_+(_+1)*1<=_;omega)
 rw[P, <-qI]
end
def nV(c:Nat):List Nat->List Nat
 |[]=>[]
 |x::r=>if x=c then []else x::nV c r
def mH(c:Nat):List Nat->List Nat
 |[]=>[]
 |x::r=>if x=c then r else mH c r
theorem DO(c:Nat):∀l,c∉nV c l
 |[]=>Qv
 |x::r=>by
  unfold nV;split
  ·exact Qv
  ·next h=>exact λz=>(NB.mp z).elim (λe=>h e.symm) (DO c r)
theorem qL{c:Nat}:∀{l:List Nat},c∈l->l=nV c l++c::mH c l
 | x::r,h=>by
  unfold nV mH;split
  ·next e=>rw[e];rfl
  ·next e=>
   have:=qL ((NB.mp h).resolve_left λz=>e z.symm);rw[RM, <-this]
theorem qM{c:Nat}:∀{l:List Nat},c∉l->nV c l=l/\mH c l=[]
 |[],_=>⟨rfl,rfl⟩
 |x::r,h=>by
  have Z:¬ x=c:=λe=>h (e ▸ .head _);obtain⟨a,b⟩:=qM (λz=>h (.tail _ z):c∉r);unfold nV mH;rw[if_neg Z,if_neg Z,a,b];exact⟨rfl,rfl⟩
theorem zx(c:Nat)(l:List Nat):(nV c l).length+(mH c l).length<=l.length:=by
 by_cases h:c∈l
 ·have:=Of nC (qL h);rw[Nr,NH]at this;omega
 ·obtain⟨a,b⟩:=qM h;rw[a,b];simp
theorem zy{c x:Nat}{l:List Nat}(h:x∈nV c l\/x∈mH c l):x∈l:=by
 by_cases hc:c∈l
 ·rw[qL hc,Oi,NB];rcases h with h|h
  ·exact .inl h
  ·exact .inr (.inr h)
 ·obtain⟨a,b⟩:=qM hc;rw[a,b]at h;exact h.elim id λz=>by cases z
theorem wo(c:Nat)(l:List Nat):∃g,kC (st l) (st [c])=[st (nV c l),st g,st (mH c l)]:=by
  by_cases h:c∈l
  · exact ⟨[c], by conv=>lhs;rw[qL h]
                   exact ur (DO c l)⟩
  · obtain⟨a,b⟩:=qM h
    exact⟨[],by rw[FL h,a,b]⟩
def sp(c:Nat):List Nat->List (List Nat)
 |[]=>[[]]
 |x::r=>if x=c then []::sp c r else match sp c r with
  |[]=>[[x]]
  |w::ws=>(x::w)::ws
theorem qN(c:Nat):∀l,sp c l≠[]
 |[]=>by simp[sp]
 |x::r=>by
  unfold sp;split
  ·simp
  ·split<;>simp
theorem sS(c:Nat):∀l,∀w∈sp c l,c∉w
 |[]=>by simp[sp]
 | x::r=>by
  have Z:=sS c r;unfold sp;split
  ·intro w hw;rcases NB.mp hw with rfl|hw
   ·exact Qv
   ·exact Z w hw
  ·next hx=>
   split
   ·intro w hw;rw[NV.mp hw];exact λz=>hx (NV.mp z).symm
   ·next w ws e=>
    rw[e]at Z;intro v Y;rcases NB.mp Y with rfl|Y
    ·exact λz=>(NB.mp z).elim (λe=>hx e.symm) (Z w (.head _))
    ·exact Z v (.tail _ Y)
theorem kY(c:Nat):∀l,jn [c] (sp c l)=l
 |[]=>rfl
 | x::r=>by
  have Z:=kY c r;unfold sp;split
  ·next e=>
   match h:sp c r with
   |[]=>exact absurd h (qN c r)
   |w::ws=>rw[kh, <-h,Z,e];rfl
  ·next e=>
   match h:sp c r with
   |[]=>exact absurd h (qN c r)
   |w::ws=>
    rw[h]at Z;show jn [c] ((x::w)::ws)=x::r;rw[<-Z,sR,sR];rfl
theorem zz(c:Nat)(l:List Nat):Txt.split (st l) (st [c])=(sp c l).map st:=by
 conv=>lhs;rw[<-kY c l]
 exact v9 (qN c l) (sS c l)
theorem kZ(c:Nat):∀l,(sp c l).length=l.count c+1
 |[]=>rfl
 | x::r=>by
  have Z:=kZ c r;unfold sp;split
  ·next e=>rw[NH,Z,e,List.count_cons_self]
  ·next e=>
   rw[List.count_cons_of_ne (λz=>e z)];split
   ·next h=>exact absurd h (qN c r)
   ·next w ws h=>rw[<-Z,h];rfl
theorem k9{c x:Nat}:∀{l:List Nat} {w:List Nat},w∈sp c l->x∈w->x∈l
 |[],w,hw,hx=>by rw[NV.mp hw]at hx;cases hx
 | y ::r,w,hw,hx=>by
  unfold sp at hw;split at hw
  ·rcases NB.mp hw with rfl|hw
   ·cases hx
   ·exact .tail _ (k9 hw hx)
  ·split at hw
   ·rw[NV.mp hw]at hx;exact(NV.mp hx) ▸ .head _
   ·next v ws h=>
    rcases NB.mp hw with rfl|hw
    ·rcases NB.mp hx with rfl|hx
     ·exact .head _
     ·exact .tail _ (k9 (h ▸ .head _:v∈sp c r) hx)
    ·exact .tail _ (k9 (h ▸ .tail _ hw:w∈sp c r) hx)
theorem ko{c:Nat}:∀{l:List Nat} {w:List Nat},w∈sp c l->w.length<=l.length
 |[],w,hw=>by rw[NV.mp hw];exact Nu _
 | y::r,w,hw=>by
  unfold sp at hw;split at hw
  ·rcases NB.mp hw with rfl|hw
   ·exact NN _
   ·exact Q6 (ko hw)
  ·split at hw
   ·rw[NV.mp hw];simp
   ·next v ws h=>
    rcases NB.mp hw with rfl|hw
    ·exact PF (ko (h ▸ .head _:v∈sp c r))
    ·exact Q6 (ko (h ▸ .tail _ hw:w∈sp c r))
def rt(w:List Nat):D:=.tup [oD (sH (nV 45 w)),oD (sH (mH 45 w))]
def JU(l:List Nat):List (List Nat):=(sp 32 (mH 58 l)).drop 1
def Jy(l:List Nat):D:=.tup [oD (sH (nV 58 l)),.tup ((JU l).map rt)]
theorem zA{c:Nat}{l:List Nat}(h:asc l):asc (nV c l):=λx Z=>h x (zy (.inl Z))
theorem zB{c:Nat}{l:List Nat}(h:asc l):asc (mH c l):=λx Z=>h x (zy (.inr Z))
theorem FY{l:List Nat}(Z:asc l)(U:l.length<=9000):d4 [.str (st l)]=aw (rt l):=by
 unfold d4 jk;obtain⟨g,Y⟩:=wo 45 l;have W:=zx 45 l;have X:cF jN (mV 0) (mK (.str ("-":Str))) [ar (.str (st l)),none,none,none]=aw (.tup [.str (st (nV 45 l)),.str (st g),.str (st (mH 45 l))]):=oH (c:=45) rfl (Of (λs:Str=>(aw (D.str s):M D)) wk) Y (by omega);refine cS (o:=.ret (rt l)) ((aS (qi (ρ':=[ar (.str (st l)),ar (.str (st (nV 45 l))),ar (.str (st g)),ar (.str (st (mH 45 l)))]) X rfl)).trans (dX (C6 ?_ ?_))) rfl
 ·exact lh ((b7 rfl).trans (AZ (zA Z) (by omega)))
 ·exact lh ((b7 rfl).trans (AZ (zB Z) (by omega)))
theorem Lr(o:Option Nat):fy 0 (oD o)=true:=by cases o<;>rfl
theorem Ls(w:List Nat):fy 0 (rt w)=true:=by unfold rt;cases sH (nV 45 w)<;>cases sH (mH 45 w)<;>rfl
theorem DP:∀ws:List (List Nat),cn 0 (ws.map rt)=c_
 |[]=>rfl
 |w::ws=>by
  show(fy 0 (rt w) && cn 0 (ws.map rt))=c_;rw[Ls,DP ws];rfl
theorem DQ(o:Option Nat):Dm (oD o):=by cases o<;>rfl
theorem Jz(l:List Nat):Le (Jy l):=by
 refine⟨rfl,λds e x Z=>?_⟩;cases e;rcases NB.mp Z with rfl|Z
 ·exact⟨DQ _,λX e=>by cases h:sH (nV 58 l)<;>rw[h]at e<;>cases e⟩
 ·rw[NV.mp Z];refine⟨rfl,λX e t Y=>?_⟩;cases e;obtain⟨w,_,rfl⟩:=N8.mp Y;refine⟨rfl,λds e x Z=>?_⟩;cases e;rcases NB.mp Z with rfl|Z
  ·exact DQ _
  ·rw[NV.mp Z];exact DQ _
section
variable {l:List Nat}
theorem FZ(l:List Nat):(JU l).length=(mH 58 l).count 32:=by unfold JU;rw[NO,kZ];rfl
theorem MM{g:List Nat}(X:asc l)(S:l.length<=900):
  jJ (ae (aH (az bK (ae (mV 1) aq))) (ae (cm da (aH (IS (bF (dM (aH (i3 (aH (cF df (mV 3) (mK (.str (" ":Str))))) (oS (mK (.int 1))) oN))) (gN 0) dI dJ [none])))) aq)) [ar (.str (st l)),ar (.str (st (nV 58 l))),ar (.str (st g)),ar (.str (st (mH 58 l))),none]=aw (Jy l):=by
 have T:=zx 58 l;have U:(sp 32 (mH 58 l)).length<=901:=by rw[kZ];have:=Qz (a:=32) (l:=mH 58 l);omega
 have hs:aH (cF df (mV 3) (mK (.str (" ":Str)))) [ar (.str (st l)),ar (.str (st (nV 58 l))),ar (.str (st g)),ar (.str (st (mH 58 l))),none]=aw (.fz ((sp 32 (mH 58 l)).map λw=>D.str (st w))):=by have W:=jP (e1:=mV 3) (e2:=mK (.str (" ":Str))) (ρ:=[ar (.str (st l)),ar (.str (st (nV 58 l))),ar (.str (st g)),ar (.str (st (mH 58 l))),none]) (l:=mH 58 l) (c:=32) (ws:=sp 32 (mH 58 l)) rfl (Of (λs:Str=>(aw (D.str s):M D)) nU) (zz 32 _) (by omega) (by omega);unfold aH;rw[W];exact bJ (gq _) (by rw[Nt];unfold lim;omega)
 have hd:=DL hs (by omega);have Y:=C0 (l:=JU l) (mk:=λw=>D.str (st w)) (f:=rt) (mi:=dM (aH (i3 (aH (cF df (mV 3) (mK (.str (" ":Str))))) (oS (mK (.int 1))) oN))) (g:=gN 0) (t:=dI) (m:=dJ) (js:=[none]) (ρ:=[ar (.str (st l)),ar (.str (st (nV 58 l))),ar (.str (st g)),ar (.str (st (mH 58 l))),none])
  (λρ=>∃x,ρ=[x]) (λ_=>c_) (by
   unfold dM;rw[hd,aj];rfl) (by unfold JU;rw[NO];unfold lim;omega) ⟨none,rfl⟩ (λw hw ρ ⟨x,hρ⟩=>by
   subst hρ;have Z:=Ob hw;have:=ko Z;exact⟨[ar (.str (st w))],rfl,⟨_,rfl⟩,rfl,λ_=>lh ((b7 rfl).trans (FY (λc Y=>zB X c (k9 Z Y)) (by omega)))⟩)
  (by rw[cq];exact DP _)
 rw[cq]at Y;exact C6 (lh ((b7 rfl).trans (AZ (zA X) (by omega)))) ((e9 Y).trans (qh (by rw[Nt];unfold JU;rw[NO];unfold lim;omega)))
end
theorem xU:∀{ts:List (List Int)},ng (ts.map tupI)=c_->ts.Pairwise λa b=>HT.lexLt a b=c_
 |[],_=>.nil
 |[_],_=>List.pairwise_singleton _ _
 |a::b::r,h=>by
  have h:(rF (tupI a) (tupI b) && ng ((b::r).map tupI))=true:=h;rw[sN,OA]at h;have Y:=xU h.2;refine On.mpr ⟨λx Z=>?_,Y⟩;rcases NB.mp Z with rfl|Z
  ·exact h.1
  ·exact tW h.1 ((On.mp Y).1 x Z)
theorem sT{many:Int}:∀{ds:List D},ds.all (iW many)=c_->∃E:List (List Int),ds=E.map tupI/\∀t∈E,∃a b:Int,t=[a,b]/\0<=a/\a<b/\b<many
 |[],_=>⟨[],rfl,λt Z=>by cases Z⟩
 |d::ds,h=>by
  rw[Ry,OA]at h;obtain⟨E,rfl,Y⟩:=sT h.2;obtain⟨i,j,rfl,X,U,W⟩:=y8 h.1;refine⟨[i,j]::E,rfl,λt Z=>?_⟩;rcases NB.mp Z with rfl|Z
  ·exact⟨i,j,rfl,X,U,W⟩
  ·exact Y t Z
theorem wq{d:D}(h:iX d=c_)(U:∀m ts,d= .tup [m,.tup ts]->ts.length<=60):∃(n:Nat) (E:List (List Int)),n<=14/\WebOk n E/\d=cJ n E:=by
 unfold iX at h;split at h
 ·next many ties=>
  simp only[hO,decide_eq_true_eq]at h;obtain⟨h0,Z,X,W⟩:=h;obtain⟨E,rfl,Y⟩:=sT X;obtain⟨n,rfl⟩:=Oq h0;refine⟨n,E,by omega,⟨Y,xU W,?_⟩,rfl⟩;have:=U _ _ rfl
  rwa [Nt]at this
 ·cases h
theorem F4(c x:Nat)(l:List Nat):(mH c l).count x<=l.count x:=by
 by_cases h:c∈l
 ·conv=>rhs;rw[qL h]
  rw[Pc,List.count_cons];omega
 ·rw[(qM h).2];exact NN _
section
variable {l:List Nat}
theorem DR(Y:l.count 32<=60):∀m Z,Jy l= .tup [m,.tup Z]->Z.length<=60:=λm Z e=>by cases e;rw[Nt,FZ];exact Nz (F4 _ _ _) Y
theorem DS(W:asc l)(Q:l.length<=900)(X:l.count 32<=60)(Y:∀(n:Nat) (E:List (List Int)),n<=14->WebOk n E->l≠og n E):cf [.str (st l)]=M.raise (.exc "NoText" []):=by
 unfold cf gO;obtain⟨g,U⟩:=wo 58 l;have R:cF jN (mV 0) (mK (.str (":":Str))) [ar (.str (st l)),none,none,none,none]=aw (.tup [.str (st (nV 58 l)),.str (st g),.str (st (mH 58 l))]):=oH (c:=58) rfl (Of (λs:Str=>(aw (D.str s):M D)) wm) U (by omega);have hw:d5 [Jy l]=aw (.bl (iX (Jy l))):=xP (Jz l) λm S e=>Nz (DR X m S e) (by decide);have P:mW (cA (bV (aH (az d5 (ae (mV 4) aq))))) (eF gU (aH (az eY (ae (mV 4) aq))) (mV 0)) [ar (.str (st l)),ar (.str (st (nV 58 l))),ar (.str (st g)),ar (.str (st (mH 58 l))),ar (Jy l)]=aw true:=by
  cases hb:iX (Jy l)with
  |false=>exact fD (b:=c_) (c:=c_) (not_eq (b:=dr) (fX (lh ((b7 rfl).trans (hw.trans (by rw[hb])))))) λz=>by cases z
  |true=>
   obtain⟨n,E,Z,w,e⟩:=wq hb (DR X);refine fD (b:=dr) (c:=c_) (not_eq (b:=c_) (fX (lh ((b7 rfl).trans (hw.trans (by rw[hb])))))) λ_=>?_;have he:∀t∈E,∃a b:Nat,t=[(a:Int),(b:Int)]/\a<100/\b<100:=λt T=>Jt Z w T;refine bY (lh ((b7 rfl).trans (by rw[e];exact DK Z w))) (y:=.str (st l)) rfl ?_;rw[Lc (uI (by omega) he) W,NQ λz=>Y n E Z w z.symm];rfl
 exact m4 ((aS (fE (nb (e:=fq (mV 0) "str") rfl))).trans ((aS (qi (ρ':=[ar (.str (st l)),ar (.str (st (nV 58 l))),ar (.str (st g)),ar (.str (st (mH 58 l))),none]) R rfl)).trans ((aS (ji (MM W Q))).trans (qg (vZ P)))))
end
theorem A1{d:D}(h:fq (mV 0) "str" [ar d,none,none,none,none]=aw (.bl dr)):cf [d]=M.raise (.exc "NoText" []):=by unfold cf gO;exact m4 (qg (vZ (not_eq (b:=dr) (fX h))))
theorem wt:iH (bw (M.raise (.exc "NoText" [])) [])=aw (.fz [.int 9]):=AY (by decide) (by rfl) (λf p=>Lo (by decide)) rfl
end W
namespace W
open PySem PySem.Spec PyProof.Rows L2 S3 S4 S7 PySem.NumText
abbrev nW(l:List Nat):Prop:=∀c∈l,48<=c/\c<=57
def vl(a:Nat)(l:List Nat):Nat:=l.foldl (λa c=>a*10+(c - 48)) a
theorem DT{l:List Nat}(h:nW l):l.dropWhile blank=l:=by
 cases l with
 |nil=>rfl
 |cons c r=>
  have Z:=h c (.head _);rw[List.dropWhile_cons,if_neg];unfold blank;simp;omega
theorem zF{l:List Nat}(h:nW l):sign l=(dr,l):=by
 unfold sign;split
 ·next r=>have:=h 45 (.head _);omega
 ·next r=>have:=h 43 (.head _);omega
 ·rfl
theorem F5{l:List Nat}(h:nW l):core l=l:=by unfold core;rw[DT h,zF h,DT (l:=l.reverse) λc Z=>h c (List.mem_reverse.mp Z),List.reverse_reverse]
theorem zG:∀{l:List Nat} (p:Array Nat×Bool),nW l->l.foldlM (RO 10) p=ar (p.1++(l.map (· - 48)).toArray,p.2|| !l.isEmpty)
 |[],p,_=>by simp
 | c::r,p,h=>by
  have Z:=h c (.head _);have hs:RO 10 p c=ar (p.1.push (c - 48),c_):=by
   unfold RO;rw[if_neg (by simp;omega)];have:digit? c=ar (c - 48):=by unfold digit?;rw[if_pos (by simp;omega)]
   rw[this];exact if_pos (by omega)
  rw[List.foldlM_cons,hs];show r.foldlM (RO 10) (p.1.push (c - 48),c_)=_;rw[zG _ λc Z=>h c (.tail _ Z)];simp
theorem xV{p:Nat->Bool}:∀{l:List Nat},(∀c∈l,p c=c_)->l.takeWhile p=l
 |[],_=>rfl
 |c::r,h=>by rw[QI,if_pos (h c (.head _)),xV λc Z=>h c (.tail _ Z)]
theorem F6{l:List Nat}(h:nW l)(Y:l≠[])(W:l.length<=640):PySem.intText? (st l)=ar ((vl 0 l:Nat):Int):=by
 have e1:numTextOf (st l)=l:=by refine if_pos ?_;show l.toArray.all _=c_;rw[Rp,NT];exact λc Z=>NJ (by have:=h c Z;omega)
 have e2:numSeenOf (st l)=l:=by show(numTextOf (st l)).takeWhile (· !=0)=l;rw[e1];exact xV λc Z=>by have:=h c Z;simp;omega
 have X:digits? 10 l=ar (l.map (· - 48)).toArray:=by
  unfold digits?;rw[zG _ h];cases l with
  |nil=>exact absurd rfl Y
  |cons c r=>simp
 unfold PySem.intText?;rw[e2,e1,if_pos (by simp),F5 h,X];dsimp only;rw[if_pos (by simp;omega),DT h,zF h];unfold worth vl;simp[List.foldl_map]
theorem G5:∀(l:List Nat) (a:Nat),a<=vl a l
 |[],a=>Nu _
 |c::r,a=>by
  have:=G5 r (a*10+(c - 48));show a<=vl (a*10+(c - 48)) r;omega
theorem JA{c d e:Nat}{r:List Nat}(Z:49<=c):100<=vl 0 (c::d::e::r):=by have:=G5 r (((0*10+(c - 48))*10+(d - 48))*10+(e - 48));show 100<=vl (((0*10+(c - 48))*10+(d - 48))*10+(e - 48)) r;omega
def DU(l:List Nat):Bool:= !l.isEmpty && (l.all (λc=>decide (48<=c/\c<=57)) && !(decide (l.head? =ar 48) && !decide (l=[48])))
def qO(l:List Nat):Option Nat:=if DU l=c_ then ar (vl 0 l)else none
theorem qP{l:List Nat}{n:Nat}(h:qO l=ar n)(X:n<100):l=dg n:=by
 unfold qO at h;split at h
 ·next hc=>
  cases h;unfold DU at hc;simp only[hO,Rg,rb,decide_eq_true_eq]at hc;obtain⟨U,Z,Y⟩:=hc
  match l,U,Z,Y,X with
  |[a],_,Z,_,X=>
   have W:=Z a (.head _);exact(m6 (l:=[a]) (n:=vl 0 [a]) (by show(if 48<=a/\a<=57 then ar (a - 48)else none)=ar (0*10+(a - 48));rw[if_pos W,Nat.zero_mul,Ss])).2
  |[a,b],_,Z,Y,X=>
   have W:=Z a (.head _);have T:=Z b (.tail _ (.head _));have h0:a≠48:=λe=>by subst e;simp at Y
   exact(m6 (l:=[a,b]) (n:=vl 0 [a,b]) (by show(if 49<=a/\a<=57/\48<=b/\b<=57 then ar ((a - 48)*10+(b - 48))else none)=ar ((0*10+(a - 48))*10+(b - 48));rw[if_pos (by omega),Nat.zero_mul,Ss])).2
  |a::b::c::r,_,Z,Y,X=>
   have W:=Z a (.head _);have h0:a≠48:=λe=>by subst e;simp at Y
   have:=JA (c:=a) (d:=b) (e:=c) (r:=r) (by omega);omega
 ·cases h
theorem DV:∀n:Nat,n<100->qO (dg n)=ar n:=by decide+kernel
end W
namespace W
open PySem PySem.Spec PyProof.Rows L2 S3 S4 S7
theorem xW{p:Nat->Bool}:∀{l:List Nat},(l.takeWhile p).length=l.length->∀c∈l,p c=c_
 |[],_,c,hc=>by cases hc
 | x::r,h,c,hc=>by
  rw[QI]at h;split at h
  ·next hx=>
   rcases NB.mp hc with rfl|hc
   ·exact hx
   ·exact xW (by simpa using h) c hc
  ·simp at h
theorem G6{p:Nat->Bool}(l:List Nat):(l.takeWhile p).length<=l.length:=(List.takeWhile_prefix p).length_le
theorem zH{p:Nat->Bool}:∀{l:List Nat} {c:Nat} {r:List Nat},l.drop (l.takeWhile p).length=c::r->p c=dr
 |[],c,r,h=>by cases h
 |x::l,c,r,h=>by
  rw[QI]at h;split at h
  ·exact zH (l:=l) h
  ·next hx=>cases h;simpa using hx
def Bc(p:Nat->Bool)(l:List Nat):Nat:=(l.takeWhile p).length
def JB(p:Nat->Bool)(l:List Nat):Nat:=l.length - ((l.drop (Bc p l)).reverse.takeWhile p).length
theorem strip_eq(p:Nat->Bool)(l:List Nat):cp (Txt.stripBy p c_ c_ (st l))=(l.take (JB p l)).drop (Bc p l):=by
 have key:Txt.stripBy p c_ c_ (st l)=kr (st l) (Bc p l) (JB p l):=by
  unfold Txt.stripBy;split
  ·next h=>
   simp only[stripSame,hO,beq_iff_eq]at h;have Z:Bc p l=0:=h.1;have Y:JB p l=l.length:=h.2;rw[Z,Y];refine qj ?_;show l=(l.toArray.extract 0 l.length).toList;simp
  ·rfl
 rw[key];show(l.toArray.extract (Bc p l) (JB p l)).toList=_;rw[List.drop_take];simp
theorem DW{p:Nat->Bool}{l:List Nat}:cp (Txt.stripBy p c_ c_ (st l))=[]↔∀c∈l,p c=true:=by
 rw[strip_eq];constructor
 ·intro h;have Z:(l.take (JB p l)).length<=Bc p l:=QA.mp h;rw[N5]at Z;by_cases e:Bc p l=l.length
  ·exact xW e
  ·exfalso;have hle:Bc p l<=l.length:=G6 l
   match hd:l.drop (Bc p l)with
   |[]=>have:=QA.mp hd;omega
   | c::r=>
    have X:p c=false:=zH hd;have hlen:r.length+1=l.length - Bc p l:=by rw[<-NO,hd];rfl
    have W:((c::r).reverse.takeWhile p).length<=r.length:=by refine Qo λz=>?_;have Y:=G6 (p:=p) (c::r).reverse;rw[List.length_reverse,NH]at Y;have:=xW (p:=p) (l:=(c::r).reverse) (by rw[List.length_reverse,NH];omega) c (List.mem_reverse.mpr (.head _));rw[X]at this;cases this
    have:JB p l=l.length - ((c::r).reverse.takeWhile p).length:=by unfold JB;rw[hd]
    omega
 ·intro h;have e:Bc p l=l.length:=by unfold Bc;rw[xV h]
  rw[e];exact QA.mpr (by rw[N5];exact Nat.min_le_right _ _)
theorem DX{l:List Nat}:cp (Txt.stripChars (st l) ("0123456789":Str))=[]↔nW l:=by
 unfold Txt.stripChars;rw[DW];refine forall_congr' λc=>imp_congr_right λ_=>?_;rw[show("0123456789":Str)=st wj from zv];have:(st wj).cps.contains c=decide (c∈wj):=by show wj.toArray.contains c=_;simp[Bool.eq_iff_iff]
 rw[this,zw,Od]
theorem A3{l:List Nat}(Y:asc l):asc (cp (Txt.stripChars (st l) ("0123456789":Str))):=λc Z=>by unfold Txt.stripChars at Z;rw[strip_eq]at Z;exact Y c (OE (Ob Z))
theorem DY{l:List Nat}(X:asc l)(P:l.length<=640):bC [.str (st l)]=aw (oD (qO l)):=by
 unfold bC iz;have W:eF jv (mV 0) (mK (.str ("":Str))) [ar (.str (st l))]=aw (decide (l=[])):=bY (x:=.str (st l)) rfl (y:=.str ("":Str)) rfl (by rw[DI];exact MI X (λc R=>by cases R));have Y:eF gU (cF m9 (mV 0) (mK (.str ("0123456789":Str)))) (mK (.str ("":Str))) [ar (.str (st l))]=aw (!decide (nW l)):=by
  have O:cF m9 (mV 0) (mK (.str ("0123456789":Str))) [ar (.str (st l))]=aw (.str (st (cp (Txt.stripChars (st l) ("0123456789":Str))))):=by rw[uu (s:=st l) rfl rfl];show(if (st l).length<=10000 then (aw (.str (Txt.stripChars (st l) ("0123456789":Str))):M D)else M.fail)=_;rw[dY,if_pos (by omega)];rfl
  refine bY O (y:=.str ("":Str)) rfl ?_;rw[DI,Lc (A3 X) (λc R=>by cases R)];exact Of (λb:Bool=>(aw (D.bl (!b)):M D)) (decide_eq_decide.mpr DX)
 by_cases h0:l=[]
 ·subst h0;exact cS (o:=.ret .non) (cO (iw (fD (b:=c_) (c:=c_) (W.trans (by rw[NJ rfl])) (λz=>by cases z)) rfl)) rfl
 ·rw [NQ h0]at W;by_cases hd:nW l
  ·rw[NJ hd]at Y;obtain⟨c,r,rfl⟩:=List.exists_cons_of_ne_nil h0;have T:aP iV (mV 0) (mK (.int 0)) [ar (.str (st (c::r)))]=aw (.str (st [c])):=(cG (x:=.str (st (c::r))) (y:=.int 0) rfl rfl).trans (by
    show(match iI (c::r) 0 with|some c=>if (st (c::r)).length<=10000 then (aw (.str ⟨#[c]⟩):M D)else M.fail|none=>M.fail)=_;rw[show iI (c::r) 0=ar c by unfold iI wV;simp];dsimp only;rw[dY,if_pos (by omega)];rfl)
   have L:eF jv (aP iV (mV 0) (mK (.int 0))) (mK (.str ("0":Str))) [ar (.str (st (c::r)))]=aw (decide ([c]=[48])):=bY T (y:=.str ("0":Str)) rfl (by rw[nq];exact MI (λx S=>X x (by rw[NV.mp S];exact .head _)) (by decide));have N:eF gU (mV 0) (mK (.str ("0":Str))) [ar (.str (st (c::r)))]=aw (!decide (c::r=[48])):=bY (x:=.str (st (c::r))) rfl (y:=.str ("0":Str)) rfl (by rw[nq];exact Lc X (by decide));have U:=fD (b:=dr) W λ_=>fD (b:=dr) Y λ_=>xN L λ_=>N;have Z:DU (c::r)= !(decide ([c]=[48]) && !decide (c::r=[48])):=by unfold DU;rw[NT.mpr λx S=>NJ (hd x S)];simp
   by_cases hb:(decide ([c]=[48]) && !decide (c::r=[48]))=c_
   ·rw[hb]at U Z;have e:qO (c::r)=none:=if_neg (by rw[Z];decide);rw[e];exact cS (o:=.ret .non) (cO (iw U rfl)) rfl
   ·rw[Pi]at hb;rw[hb]at U Z;have e:qO (c::r)=ar (vl 0 (c::r)):=if_pos (by rw[Z];rfl);rw[e];have Q:cm nP (mV 0) [ar (.str (st (c::r)))]=aw (.int ((vl 0 (c::r):Nat):Int)):=by
     rw[e9 (x:=.str (st (c::r))) rfl];show(match PySem.intText? (st (c::r))with|some k=>if (st (c::r)).length<=640 then (aw (D.int k):M D)else M.fail|none=>M.fail)=_;rw[F6 hd h0 P];dsimp only;rw[dY,if_pos P]
    exact cS (o:=.ret (.int ((vl 0 (c::r):Nat):Int))) ((aS (fE U)).trans (dX Q)) rfl
  ·rw[NQ hd]at Y;have e:qO l=none:=if_neg (λz=>hd (by
    unfold DU at z;simp only[hO,rb,decide_eq_true_eq]at z;exact z.2.1))
   rw[e];exact cS (o:=.ret .non) (cO (iw (fD (b:=dr) (c:=c_) W λ_=>fD (b:=c_) (c:=c_) Y λz=>by cases z) rfl)) rfl
theorem JC{a b:Int}:gU (.int a) (.int b)=aw (.bl (!decide (a=b))):=bH λS=>by unfold gU;refine(eP jh jh).mpr ⟨?_,rfl⟩;simp[g8];rfl
theorem sU:∀A B:List (List Int),kT (A.map mD) (B.map mD)=decide (A=B)
 |[],[]=>by simp[kT]
 |[],_::_=>by simp[kT]
 |_::_,[]=>by simp[kT]
 | a::A,b::B=>by
  have e:g8 (mD a) (mD b)=decide (a=b):=by unfold mD g8;exact we a b
  rw[NI,NI];unfold kT;rw[e,sU A B,OZ];simp
theorem zI{A:List (List Int)}:gm S (f+2) (.fz (A.map tupI))=ar (.list (A.map mD)):=by show(mapP (gm S (f+1)) (A.map tupI)).map wh=_;rw[kj];rfl
theorem DZ{A B:List (List Int)}:jv (.fz (A.map tupI)) (.fz (B.map tupI))=aw (.bl (decide (A=B))):=bH λS=>by unfold jv;refine(eP zI zI).mpr ⟨?_,rfl⟩;rw[<-sU A B];simp only[g8]
theorem xX{T:List (List Int)}(h:T.Pairwise λa b=>HT.lexLt a b=c_):eZ T=T:=by
 have Z:∀{l:List (List Int)},l.Pairwise (λa b=>HT.lexLt a b=c_)->l.Nodup:=λh=>h.imp λ{a b} h e=>by subst e;rw[kb]at h;cases h
 exact kd ((QL (Z (kl T)) (Z h)).mpr λt=>sO) ((kl T).imp λh=>lY h) (h.imp λh=>lY h)
section
variable {ρ:aI}{x y z u:Int}
theorem xY{e1 e2 Y Z:TM}(X:e1 ρ=aw (.int x))(T:e2 ρ=aw (.int y))(W:Y ρ=aw (.int z))(U:Z ρ=aw (.int u)):oF nF tO tO e1 e2 Y Z ρ=aw (decide (x<=y) && (decide (y<z) && decide (z<u))):=by
 unfold oF;rw[X,aj,T,aj,show nF (.int x) (.int y)=aw (.bl (decide (x<=y)))from rfl,aj,show iZ (.bl (decide (x<=y)))=aw (decide (x<=y))from rfl,aj];by_cases c:x<=y
 ·rw[NJ c,if_pos rfl,W,aj,show tO (.int y) (.int z)=aw (.bl (decide (y<z)))from rfl,aj,show iZ (.bl (decide (y<z)))=aw (decide (y<z))from rfl,aj];by_cases c2:y<z
  ·rw[NJ c2,if_pos rfl,U];rfl
  ·rw[NQ c2,if_neg (by decide)];rfl
 ·rw[NQ c,if_neg (by decide)];rfl
end
theorem F7{g:nE}{b:du}{its ds:List D}{d v:D}{ρ Z:aI}(h:g d ρ=aw Z)(Y:b Z=aw (.ret v)):fc ⟨its,.none⟩ g b (d::ds) ρ=aw (.ret v):=by rw[fc,cM,aj,h,aj,Y];rfl
theorem F8{g:nE}{b:du}{its ds:List D}{d:D}{ρ Z Y:aI}(h:g d ρ=aw Z)(X:b Z=aw (.nx Y)):fc ⟨its,.none⟩ g b (d::ds) ρ=fc ⟨its,.none⟩ g b ds Y:=by rw[fc,cM,aj,h,aj,X];rfl
abbrev uK(i:Int)(T:List (List Int)):D:=.tup [.int i,.tup (T.map tupI)]
theorem qQ{d:D}(h:Dm d):dE [d]=aw (.bl (uw d)):=ux h
def nD(i:Int)(t:List Int):Bool:=decide (0<=t.getD 0 0) && (decide (t.getD 0 0<t.getD 1 0) && decide (t.getD 1 0<i))
section
variable {i:Int}{T:List (List Int)}{its:List D}
theorem Lu{a b:Int}:cB [ar (uK i T),ar (tupI [a,b])]=if nD i [a,b]=c_ then aw (.nx [ar (uK i T),ar (tupI [a,b])])else aw (.ret (.bl dr)):=by
 unfold cB;refine(aS (fE (fD (b:=dr) rfl λ_=>fD (b:=dr) (bY (x:=.int 2) (y:=.int 2) rfl rfl JC) λ_=>fD (b:=dr) (not_eq (b:=c_) (fX (lh ((b7 (x:=.int a) rfl).trans (qQ rfl))))) λ_=>not_eq (b:=c_) (fX (lh ((b7 (x:=.int b) rfl).trans (qQ rfl))))))).trans ?_;have Z:cA (oF nF tO tO (mK (.int 0)) (aP cz (mV 1) (mK (.int 0))) (aP cz (mV 1) (mK (.int 1))) (aP cz (mV 0) (mK (.int 0)))) [ar (uK i T),ar (tupI [a,b])]=aw (!nD i [a,b]):=not_eq (xY (x:=0) (y:=a) (z:=b) (u:=i) rfl rfl rfl rfl);cases c:nD i [a,b]with
 |true=>exact(fE (Z.trans (by rw[c];rfl))).trans (if_pos rfl).symm
 |false=>exact(iw (Z.trans (by rw[c];rfl)) rfl).trans (if_neg (by decide)).symm
theorem D0:∀(R:List (List Int)) (x:Option D),(∀t∈R,∃a b:Int,t=[a,b])->∃y,fc ⟨its,.none⟩ (gN 1) cB (R.map tupI) [ar (uK i T),x]=if R.all (nD i)=c_ then aw (.nx [ar (uK i T),y])else aw (.ret (.bl dr))
 |[],x,_=>⟨x,by rw[OW,jj];rfl⟩
 | t::R,x,h=>by
  obtain⟨a,b,rfl⟩:=h t (.head _);obtain⟨y,Y⟩:=D0 R (ar (tupI [a,b])) λt X=>h t (.tail _ X);refine⟨y,?_⟩;have Z:=Lu (i:=i) (T:=T) (a:=a) (b:=b);rw[Ry,NI];cases c:nD i [a,b]with
  |true=>
   rw[c,if_pos rfl]at Z;rw[F8 rfl Z,Y,Pf]
  |false=>
   rw[c,if_neg (by decide)]at Z;rw[F7 rfl Z,Pj,if_neg (by decide)]
end
section
variable {i:Int}{T:List (List Int)}
theorem F9(T:List (List Int)):ng (T.map tupI)=decide (T=eZ T):=by
 rw[OZ,Od];constructor
 ·exact λh=>(xX (xU h)).symm
 ·intro h;rw[h];exact qB (kl T)
theorem Ga(h:∀t∈T,∃a b:Int,t=[a,b]):iX (uK i T)=((decide (0<=i) && decide (i<=14)) && (T.all (nD i) && decide (T=eZ T))):=by show(decide (0<=i) && (decide (i<=14) && ((T.map tupI).all (iW i) && ng (T.map tupI))))=_;rw[F9,Qk,Rw];congr 3;rw[OZ,NT,NT];refine forall_congr' λt=>imp_congr_right λZ=>?_;obtain⟨a,b,rfl⟩:=h t Z;show((decide (0<=a) && decide (a<i)) && ((decide (0<=b) && decide (b<i)) && decide (a<b)))=c_↔(decide (0<=a) && (decide (a<b) && decide (b<i)))=c_;simp only[hO,decide_eq_true_eq];omega
theorem Gb(h:∀t∈T,∃a b:Int,t=[a,b])(S:T.length<=63):dH [uK i T]=aw (.bl (iX (uK i T))):=by
 rw[Ga h];refine cS (o:=.ret (.bl ((decide (0<=i) && decide (i<=14)) && (T.all (nD i) && decide (T=eZ T))))) ?_ rfl;show fP [ar (uK i T),none]=_;unfold fP;have Y:mW (cA (bV (fq (mV 0) "tuple"))) (mW (eF gU (cm fW (mV 0)) (mK (.int 2))) (mW (cA (bV (aH (az dE (ae (aP cz (mV 0) (mK (.int 0))) aq))))) (cA (gG nF nF (mK (.int 0)) (aP cz (mV 0) (mK (.int 0))) (mK (.int 14)))))) [ar (uK i T),none]=aw (!(decide (0<=i) && decide (i<=14))):=
  fD (b:=dr) rfl λ_=>fD (b:=dr) (bY (x:=.int 2) (y:=.int 2) rfl rfl JC) λ_=>fD (b:=dr) (not_eq (b:=c_) (fX (lh ((b7 (x:=.int i) rfl).trans (qQ rfl))))) λ_=>not_eq (sG (x:=0) (y:=i) (z:=14) rfl rfl rfl)
 cases q:decide (0<=i) && decide (i<=14)with
 |false=>exact cO (iw (Y.trans (by rw[q];rfl)) rfl)
 | true=>
  rw[Pf];refine(aS (fE (Y.trans (by rw[q];rfl)))).trans ((aS (fE (not_eq (b:=c_) rfl))).trans ?_);obtain⟨y,Z⟩:=D0 (i:=i) (T:=T) (its:=T.map tupI) T none h;have hs:kz (dM (aP cz (mV 0) (mK (.int 1)))) (gN 1) cB [ar (uK i T),none]=if T.all (nD i)=c_ then aw (.nx [ar (uK i T),y])else aw (.ret (.bl dr)):=by rw[<-Z];rfl
  cases q2:T.all (nD i)with
  |false=>
   rw[q2,if_neg (by decide)]at hs;exact cO hs
  | true=>
   rw[q2,if_pos rfl]at hs;refine(aS hs).trans (dX ?_);have X:aH (cm nG (aP cz (mV 0) (mK (.int 1)))) [ar (uK i T),y]=aw (.fz (T.map tupI)):=by unfold aH;rw[e9 (x:=.tup (T.map tupI)) rfl];exact bJ (fw _) (by rw[Nt];unfold lim;omega)
   have W:aH (cm iT (aP cz (mV 0) (mK (.int 1)))) [ar (uK i T),y]=aw (.fz ((eZ T).map tupI)):=by unfold aH;rw[e9 (x:=.tup (T.map tupI)) rfl];show iH (match rowsOf (T.map tupI)with|some nss=>bX nss|none=>M.fail)=_;rw[gS];show iH (bX T)=_;unfold bX;rw[if_pos ⟨S,NT.mpr λt U=>by obtain⟨a,b,rfl⟩:=h t U;rfl⟩];exact bJ (fw _) (by rw[Nt];have:=iY T;unfold lim;omega)
   rw[Pf];exact(cG X W).trans DZ
end
def pO:Option Nat->o_
 |some k=>.int k
 |none=>.none
theorem JD{S:aB}{n:Nat}(o:Option Nat):gm S n (oD o)=ar (pO o):=by cases o<;>cases n<;>rfl
theorem zJ{S:aB}{n:Nat}:∀os:List (Option Nat),mapP (gm S n) (os.map oD)=ar (os.map pO)
 |[]=>rfl
 |o::os=>by
  show(match gm S n (oD o),mapP (gm S n) (os.map oD)with|some p,ar ps=>ar (p::ps)|_,_=>none)=_;rw[JD,zJ os];rfl
theorem Lv{os:List (Option Nat)}:inD .non (.fz (os.map oD))=aw (.bl (os.any E2)):=bH λS=>by
 unfold inD;have Z:gm S 60 (.fz (os.map oD))=ar (.list (os.map pO)):=by show(mapP (gm S 59) (os.map oD)).map wh=_;rw[zJ];rfl
 refine(ub (p:=.none) (q:=.list (os.map pO)) (r:=os.any E2) rfl Z ?_).mpr ⟨rfl,rfl⟩;show ar ((os.map pO).any λy=>g8 y .none)=_;rw[List.any_map];congr 2;funext o;cases o<;>simp[pO,g8]
def wu:List (List Nat)->Option (List (List Int))
 |[]=>ar []
 |w::ws=>match (sp 45 w).map qO with
  |[ar a,ar b]=>(wu ws).map λT=>[(a:Int),(b:Int)]::T
  |_=>none
theorem D1:∀os:List (Option Nat),cn 0 (os.map oD)=c_
 |[]=>rfl
 |o::os=>by
  show(fy 0 (oD o) && cn 0 (os.map oD))=c_;rw[Lr,D1 os];rfl
section
variable {S:aB}{o0 o1 x3 x4 x5:Option D}{w:List Nat}{xs:List D}
theorem Gc(X:asc w)(U:w.length<=640):aH (bF (dM (aH (cF df (mV 3) (mK (.str ("-":Str)))))) (gN 0) eB eE [none]) [o0,o1,x3,ar (.str (st w)),x4,x5]=aw (.fz (((sp 45 w).map qO).map oD)):=by
 have W:(sp 45 w).length<=641:=by rw[kZ];have:=Qz (a:=45) (l:=w);omega
 have hs:aH (cF df (mV 3) (mK (.str ("-":Str)))) [o0,o1,x3,ar (.str (st w)),x4,x5]=aw (.fz ((sp 45 w).map λw=>D.str (st w))):=by have Y:=jP (e1:=mV 3) (e2:=mK (.str ("-":Str))) (ρ:=[o0,o1,x3,ar (.str (st w)),x4,x5]) (l:=w) (c:=45) (ws:=sp 45 w) rfl (Of (λs:Str=>(aw (D.str s):M D)) wk) (zz 45 _) (by omega) (by omega);unfold aH;rw[Y];exact bJ (gq _) (by rw[Nt];unfold lim;omega)
 have Z:=CZ (l:=sp 45 w) (mk:=λw=>D.str (st w)) (f:=λp=>oD (qO p)) (mi:=dM (aH (cF df (mV 3) (mK (.str ("-":Str)))))) (g:=gN 0) (t:=eB) (m:=eE) (js:=[none]) (ρ:=[o0,o1,x3,ar (.str (st w)),x4,x5])
  (λρ=>∃x,ρ=[x]) (λ_=>c_) (by
   unfold dM;rw[hs,aj];rfl) (by unfold lim;omega) ⟨none,rfl⟩ (λp hp ρ ⟨x,hρ⟩=>by
   subst hρ;have:=ko hp;exact⟨[ar (.str (st p))],rfl,⟨_,rfl⟩,rfl,λ_=>lh ((b7 rfl).trans (DY (λc Z=>X c (k9 hp Z)) (by omega)))⟩)
  (by rw[cq];have:=D1 ((sp 45 w).map qO);rw[N0]at this;exact this)
 rw[cq]at Z;rw[Z,N0];rfl
def Lw(xs:List D)(S:aB)(o0 o1 x5:Option D)(w:List Nat):List (Option Nat)->Option (Res Out×aB)
 |[ar a,ar b]=>ar (.ok (.nx [o0,o1,ar (.lst S.length),ar (.str (st w)),ar (.fz [.int a,.int b]),x5]),S++[xs++[tupI [(a:Int),(b:Int)]]])
 |_=>ar (.ok (.ret .non),S++[xs])
theorem JE:∀{os:List (Option Nat)},(!decide ((os.length:Int)=2)||os.any E2)=c_->Lw xs S o0 o1 x5 w os=ar (.ok (.ret .non),S++[xs])
 |[],_=>rfl
 |[a],_=>by cases a<;>rfl
 |[none,_],_=>rfl
 |[ar _,none],_=>rfl
 |[ar _,ar _],h=>by simp at h
 |a::b::c::r,_=>by unfold Lw;cases a<;>cases b<;>rfl
theorem Lx(W:asc w)(U:w.length<=640)(T:xs.length<=900):bT [o0,o1,ar (.lst S.length),ar (.str (st w)),x4,x5] (S++[xs])=Lw xs S o0 o1 x5 w ((sp 45 w).map qO):=by
 unfold bT;refine(aL (bN (NX (Gc W U) _))).trans ?_;generalize (sp 45 w).map qO=os;have Y:eF gU (cm fW (mV 4)) (mK (.int 2)) [o0,o1,ar (.lst S.length),ar (.str (st w)),ar (.fz (os.map oD)),x5]=aw (!decide ((os.length:Int)=2)):=bY (C4 rfl) rfl (by rw[Nt];exact JC);have Z:eF inD (mK .non) (mV 4) [o0,o1,ar (.lst S.length),ar (.str (st w)),ar (.fz (os.map oD)),x5]=aw (os.any E2):=bY rfl rfl Lv;have q:=fD Y λ_=>Z;cases hq:(!decide ((os.length:Int)=2)||os.any E2)with
 |true=>
  rw[hq]at q;rw[JE hq];exact NX (cO (iw q rfl)) _
 | false=>
  rw[hq]at q
  match os,hq,q with
  |[ar a,ar b],_,q=>
   refine(aL (NX (fE q) _)).trans ?_;have X:jJ (ae (aP cz (mV 4) (mK (.int 0))) (ae (aP cz (mV 4) (mK (.int 1))) aq)) [o0,o1,ar (.lst S.length),ar (.str (st w)),ar (.fz ([ar a,ar b].map oD)),x5]=aw (tupI [(a:Int),(b:Int)]):=C6 rfl rfl;refine sE (x:=.non) ?_;rw[GU (x:=.lst S.length) rfl rfl X];exact C1 (by omega)
  |[],hq,_=>cases hq
  |[_],hq,_=>cases hq
  |[none,_],hq,_=>cases hq
  |[ar _,none],hq,_=>cases hq
  |a::b::c::r,hq,_=>
   rw[Bool.or_eq_false_iff,Bool.not_eq_false',Od]at hq;have:=hq.1;simp at this;omega
theorem D3{g:nE}{b:du}{its ds:List D}{d v:D}{ρ Z:aI}{S S1:aB}(h:g d ρ=aw Z)(Y:b Z S=ar (.ok (.ret v),S1)):fc ⟨its,.none⟩ g b (d::ds) ρ S=ar (.ok (.ret v),S1):=by rw[fc,cM,aj,h,aj,aK Y];rfl
theorem D4{its:List D}:∀(ws:List (List Nat)) (acc:List (List Int)) (x3 x4:Option D),(∀w∈ws,asc w/\w.length<=640)->acc.length+ws.length<=900->
  (∀T,wu ws=ar T->∃U Y,fc ⟨its,.none⟩ (gN 3) bT (ws.map λw=>.str (st w)) [o0,o1,ar (.lst S.length),x3,x4,x5] (S++[acc.map tupI])=ar (.ok (.nx [o0,o1,ar (.lst S.length),U,Y,x5]),S++[(acc++T).map tupI]))/\
  (wu ws=none->∃us,fc ⟨its,.none⟩ (gN 3) bT (ws.map λw=>.str (st w)) [o0,o1,ar (.lst S.length),x3,x4,x5] (S++[acc.map tupI])=ar (.ok (.ret .non),S++[us]))
 |[],acc,x3,x4,_,_=>⟨λT e=>by cases e;exact⟨x3,x4,by rw[OW,jj,Om];rfl⟩,λe=>by cases e⟩
 | w::ws,acc,x3,x4,h,hl=>by
  rw[NH]at hl;obtain⟨P,hw⟩:=h w (.head _);have Z:=Lx (S:=S) (o0:=o0) (o1:=o1) (x4:=x4) (x5:=x5) (xs:=acc.map tupI) P hw (by rw[Nt];omega);have he:wu (w::ws)=match (sp 45 w).map qO with
   |[ar a,ar b]=>(wu ws).map λT=>[(a:Int),(b:Int)]::T
   |_=>none:=rfl
  rw[he];generalize (sp 45 w).map qO=os at Z;by_cases ho:∃a b,os=[ar a,ar b]
  ·obtain⟨a,b,rfl⟩:=ho;have X:=D4 (its:=its) ws (acc++[[(a:Int),(b:Int)]]) (ar (.str (st w))) (ar (.fz [.int a,.int b])) (λw hw=>h w (.tail _ hw)) (by rw[Nr];show _+1+_<=_;omega);have e1:(acc++[[(a:Int),(b:Int)]]).map tupI=acc.map tupI++[tupI [(a:Int),(b:Int)]]:=by rw[OF];rfl
   rw[e1]at X;dsimp only;cases hT:wu ws with
   |none=>
    obtain⟨us,Q⟩:=X.2 hT;exact⟨λT z=>(by cases z),λ_=>⟨us,(iu rfl Z).trans Q⟩⟩
   |some T=>
    refine⟨λO z=>?_,λz=>by cases z⟩;cases z;obtain⟨U,Y,R⟩:=X.1 T hT;refine⟨U,Y,((iu rfl Z).trans R).trans ?_⟩;rw[NZ];rfl
  ·have hm:∀z:Option (List (List Int)),(match os with|[ar a,ar b]=>(wu ws).map λT=>[(a:Int),(b:Int)]::T|_=>none)=none:=λ_=>by
    split
    ·next a b=>exact(ho ⟨a,b,rfl⟩).elim
    ·rfl
   have W:Lw (acc.map tupI) S o0 o1 x5 w os=ar (.ok (.ret .non),S++[acc.map tupI]):=by
    unfold Lw;split
    ·next a b=>exact(ho ⟨a,b,rfl⟩).elim
    ·rfl
   rw[hm none];exact⟨λT z=>(by cases z),λ_=>⟨_,D3 rfl (Z.trans W)⟩⟩
end
theorem xZ:∀{ws:List (List Nat)} {T:List (List Int)},wu ws=ar T->(∀t∈T,∃a b:Int,t=[a,b])/\T.length=ws.length
 |[],T,h=>by cases h;exact⟨λt Z=>(by cases Z),rfl⟩
 | w::ws,T,h=>by
  unfold wu at h;split at h
  ·next a b _=>
   cases hT:wu ws with
   |none=>rw[hT]at h;cases h
   |some T'=>
    rw[hT]at h;cases h;obtain⟨X,Y⟩:=xZ hT;refine⟨λt Z=>?_,by rw[NH,NH,Y]⟩;rcases NB.mp Z with rfl|Z
    ·exact⟨a,b,rfl⟩
    ·exact X t Z
  ·cases h
theorem D5:∀{ws:List (List Nat)} {T:List (List Int)},wu ws=ar T->(∀t∈T,∃a b:Nat,t=[(a:Int),(b:Int)]/\a<100/\b<100)->ws=T.map wd
 |[],T,h,_=>by cases h;rfl
 | w ::ws,T,h,hs=>by
  unfold wu at h;split at h
  ·next a b he=>
   cases hT:wu ws with
   |none=>rw[hT]at h;cases h
   | some T'=>
    rw[hT]at h;cases h;obtain⟨U,S,e,Q,Y⟩:=hs _ (.head _);have X:a=U:=by have:=(Oc e).1;omega
    have R:b=S:=by have:=(Oc (Oc e).2).1;omega
    subst X R;have Z:=kY 45 w
    match hsp:sp 45 w,he,Z with
    |[p,q],he,Z=>
     have e1:qO p=ar a:=(Oc he).1;have e2:qO q=ar b:=(Oc (Oc he).2).1;rw[NI,JT, <-qP e1 Q, <-qP e2 Y, <-D5 hT λt W=>hs t (.tail _ W), <-Z];rfl
    |[],he,_=>cases he
    |[_],he,_=>simp at he
    |_::_::_::_,he,_=>simp at he
  ·cases h
theorem G7{c:Nat}{ws:List (List Nat)}(Z:ws≠[])(h:∀w∈ws,c∉w):sp c (jn [c] ws)=ws:=xO (sS c _) h (qN c _) Z (kY c _)
theorem D6:∀{T:List (List Int)},(∀t∈T,∃a b:Nat,t=[(a:Int),(b:Int)]/\a<100/\b<100)->wu (T.map wd)=ar T
 |[],_=>rfl
 | t::T,h=>by
  obtain⟨a,b,rfl,Y,Z⟩:=h t (.head _);have e:sp 45 (wd [(a:Int),(b:Int)])=[dg a,dg b]:=G7 (c:=45) (ws:=[dg a,dg b]) (OK _ _) λw hw=>by
   rcases NB.mp hw with rfl|hw
   ·exact qJ Y (by decide)
   ·rw[NV.mp hw];exact qJ Z (by decide)
  rw[NI];unfold wu;rw[e,NI,NI,OW,DV a Y,DV b Z,D6 λt X=>h t (.tail _ X)];rfl
def A4(l:List Nat):Option (Nat×List (List Int)):=match sp 32 l with
 |[]=>none
 |w::ws=>if w.drop (w.length - 1)=[58]then match qO (w.take (w.length - 1)),wu ws with
  |some n,ar T=>if iX (uK n T)=c_ then ar (n,T)else none
  |_,_=>none
  else none
def Gd:Option (Nat×List (List Int))->D
 |some (n,T)=>uK n T
 |none=>.non
theorem D7{n:Nat}{E:List (List Int)}(Z:n<100)(X:∀t∈E,∃a b:Nat,t=[(a:Int),(b:Int)]/\a<100/\b<100):sp 32 (og n E)=(dg n++[58])::E.map wd:=by
 rw[qI];refine G7 (OK _ _) λw hw=>?_;rcases NB.mp hw with rfl|hw
 ·intro z;rcases Oi.mp z with z|z
  ·exact qJ Z (by decide) z
  ·cases NV.mp z
 ·obtain⟨t,W,rfl⟩:=N8.mp hw;obtain⟨a,b,rfl,U,Y⟩:=X t W;exact G1 U Y
theorem JF{n:Nat}{E:List (List Int)}(Z:n<=14)(w:WebOk n E):A4 (og n E)=ar (n,E):=by
 have he:∀t∈E,∃a b:Nat,t=[(a:Int),(b:Int)]/\a<100/\b<100:=λt Y=>Jt Z w Y;unfold A4;rw[D7 (by omega) he];dsimp only;have e:(dg n++[58]).length - 1=(dg n).length:=by simp
 rw[e,List.drop_left,List.take_left,if_pos rfl,DV n (by omega),D6 he];exact if_pos (uC (by omega) (by omega) w)
theorem Ge{l:List Nat}{n:Nat}{E:List (List Int)}(h:A4 l=ar (n,E))(P:l.count 32<=60):n<=14/\WebOk n E/\l=og n E:=by
 have hlen:=kZ 32 l;have X:=kY 32 l;unfold A4 at h
 match hsp:sp 32 l,h,hlen,X with
 |[],h,_,_=>cases h
 | w ::ws,h,hlen,X=>
  dsimp only at h;split at h
  ·next h58=>
   split at h
   ·next m T e1 e2=>
    split at h
    ·next hw=>
     cases h;have N:=(xZ e2).2;rw[NH]at hlen;obtain⟨R,Q,W,ok,e⟩:=wq hw (λm O e=>by cases e;rw[Nt];omega);injection e with e;obtain⟨Y,Z⟩:=Oc e;injection Y with Y;have Y:n=R:=by omega
     subst Y;have Z:=(Oc Z).1;injection Z with Z;have S:E=Q:=by have:=Of rowsOf Z;rw[gS,gS]at this;exact NW this
     subst S;refine⟨W,ok,?_⟩;have hd:w=dg n++[58]:=by rw[<-qP e1 (by omega), <-h58];exact(O6 _ _).symm
     rw[<-X,hd,D5 e2 λt U=>Jt W ok U, <-qI]
    ·cases h
   ·cases h
  ·cases h
section
variable {l:List Nat}{S:aB}
theorem iff_eq{t:i4}{m n:TM}{b:Bool}{x y:D}{ρ:aI}(h:t ρ=aw b)(Z:b=c_->m ρ=aw x)(Y:b=dr->n ρ=aw x):IC t m n ρ=aw x:=by
 show(t ρ>>=_)=_;rw[h,aj];cases b with
 |true=>exact(if_pos rfl).trans (Z rfl)
 |false=>exact(if_neg (by decide)).trans (Y rfl)
theorem JG(v:asc l)(u:l.length<=640)(Y:l.count 32<=60):∃G,cV [.str (st l)] S=ar (.ok (Gd (A4 l)),S++G):=by
 have hlen:=kZ 32 l;have hs:aH (cF df (mV 0) (mK (.str (" ":Str)))) [ar (.str (st l)),none,none,none,none,none]=aw (.fz ((sp 32 l).map λw=>D.str (st w))):=by have A:=jP (e1:=mV 0) (e2:=mK (.str (" ":Str))) (ρ:=[ar (.str (st l)),none,none,none,none,none]) (l:=l) (c:=32) (ws:=sp 32 l) rfl (Of (λs:Str=>(aw (D.str s):M D)) nU) (zz 32 _) (by omega) (by omega);unfold aH;rw[A];exact bJ (gq _) (by rw[Nt];unfold lim;omega)
 have Z:∀w∈sp 32 l,asc w/\w.length<=640:=λw hw=>⟨λc Y=>v c (k9 hw Y),Nz (ko hw) u⟩;unfold A4
 match hsp:sp 32 l,hs,hlen,Z with
 |[],_,_,_=>exact absurd hsp (qN 32 l)
 | w ::ws,hs,hlen,Z=>
  obtain⟨J,lw⟩:=Z w (.head _);rw[NH]at hlen;generalize hL:((w::ws).map λw=>D.str (st w))=L at hs;have X:∀r:List (Option D),aP cz (mV 1) (mK (.int 0)) (ar (.str (st l))::ar (.fz L)::r)=aw (.str (st w)):=λr=>by rw[<-hL];refine(cG (x:=.fz ((w::ws).map λw=>D.str (st w))) (y:=.int 0) rfl rfl).trans ?_;show(match iI (D.str (st w)::ws.map λw=>D.str (st w)) 0 with|some d=>(aw d:M D)|none=>M.fail)=_;rw[show iI (D.str (st w)::ws.map λw=>D.str (st w)) 0=ar (D.str (st w)) by unfold iI wV;simp]
  have s1:∀r:List (Option D),fY (aP cz (mV 1) (mK (.int 0))) (oS (mK (.int (-1)))) oN (ar (.str (st l))::ar (.fz L)::r)=aw (.str (st (w.drop (w.length - 1)))):=λr=>(qk (X r) (a:=ar (-1)) (b:=none) rfl rfl (by omega)).trans (by rw[Dj]);have s2:∀r:List (Option D),fY (aP cz (mV 1) (mK (.int 0))) oN (oS (mK (.int (-1)))) (ar (.str (st l))::ar (.fz L)::r)=aw (.str (st (w.take (w.length - 1)))):=λr=>(qk (X r) (a:=none) (b:=ar (-1)) rfl rfl (by omega)).trans (by rw[wb]);have I:∀r:List (Option D),aH (az bC (ae (fY (aP cz (mV 1) (mK (.int 0))) oN (oS (mK (.int (-1))))) aq)) (ar (.str (st l))::ar (.fz L)::r)=aw (oD (qO (w.take (w.length - 1)))):=λr=>lh ((b7 (s2 r)).trans (DY (λc Y=>J c (OE Y)) (by rw[N5];omega)));have t:eF gU (fY (aP cz (mV 1) (mK (.int 0))) (oS (mK (.int (-1)))) oN) (mK (.str (":":Str))) [ar (.str (st l)),ar (.fz L),none,none,none,none]=aw (!decide (w.drop (w.length - 1)=[58])):=bY (s1 _) (y:=.str (":":Str)) rfl (by rw[wm];exact Lc (λc Y=>J c (Ob Y)) (by decide));have z:eF (KC id) (aH (az bC (ae (fY (aP cz (mV 1) (mK (.int 0))) oN (oS (mK (.int (-1))))) aq))) (mK .non) [ar (.str (st l)),ar (.fz L),none,none,none,none]=aw (qO (w.take (w.length - 1))).isNone:=bY (I _) rfl (by cases qO (w.take (w.length - 1))<;>rfl);have q:=fD t λ_=>z;have fin:∀(r:D) (G:aB),cU [ar (.str (st l)),none,none,none,none,none] S=ar (.ok (.ret r),S++G)->∃G,cV [.str (st l)] S=ar (.ok r,S++G):=λr G h=>⟨G,fK (o:=.ret r) h rfl⟩;dsimp only;have back:(!decide (w.drop (w.length - 1)=[58])||(qO (w.take (w.length - 1))).isNone)=c_->cU [ar (.str (st l)),none,none,none,none,none] S=ar (.ok (.ret .non),S++[]):=λC=>by rw[C]at q;unfold cU;rw[Om];exact NX ((aS (ji hs)).trans (cO (iw q rfl))) S
  by_cases h58:w.drop (w.length - 1)=[58]
  ·rw[if_pos h58];cases hno:qO (w.take (w.length - 1))with
   |none=>exact fin _ _ (back (by rw[hno,G_];exact .inr rfl))
   | some n=>
    rw[hno,NJ h58]at q;have U:=DL (e:=mV 1) (ρ:=[ar (.str (st l)),ar (.fz L),ar (.lst S.length),none,none,none]) (ws:=w::ws) (by rw[hL];rfl) (by rw[NH];omega);rw[J_,Pk]at U;have N:dM (aH (i3 (mV 1) (oS (mK (.int 1))) oN)) [ar (.str (st l)),ar (.fz L),ar (.lst S.length),none,none,none]=aw ⟨ws.map λw=>D.str (st w),.none⟩:=by unfold dM;rw[U,aj];rfl
    have R:=D4 (S:=S) (o0:=ar (.str (st l))) (o1:=ar (.fz L)) (x5:=none) (its:=ws.map λw=>D.str (st w)) ws [] none none (λw hw=>Z w (.tail _ hw)) (by show 0+_<=_;omega);rw[OW]at R;have FM:∀o Q,aG (kz (dM (aH (i3 (mV 1) (oS (mK (.int 1))) oN))) (gN 3) bT) (aG (bx 5 (jJ (ae (aH (az bC (ae (fY (aP cz (mV 1) (mK (.int 0))) oN (oS (mK (.int (-1))))) aq))) (ae (cm da (mV 2)) aq)))) (bM (IC (bV (aH (az dH (ae (mV 5) aq)))) (mV 5) (mK .non)))) [ar (.str (st l)),ar (.fz L),ar (.lst S.length),none,none,none] (S++[[]])=ar (.ok o,Q)->cU [ar (.str (st l)),none,none,none,none,none] S=ar (.ok o,Q):=λo Q h=>by unfold cU;exact(NX (aS (ji hs)) S).trans ((NX (aS (fE q)) S).trans ((aL (bN (eQ (us:=[]) (NN _)))).trans h))
    cases hT:wu ws with
    |none=>
     obtain⟨us,E⟩:=R.2 hT;refine fin _ [us] (FM _ _ ?_);show(kz _ _ _ _>>=_) _=_;rw[aK (m5 N E)];rfl
    |some T=>
     obtain⟨K,H,F⟩:=R.1 T hT;rw[Ic]at F;obtain⟨O,B⟩:=xZ hT;have W:jJ (ae (aH (az bC (ae (fY (aP cz (mV 1) (mK (.int 0))) oN (oS (mK (.int (-1))))) aq))) (ae (cm da (mV 2)) aq)) [ar (.str (st l)),ar (.fz L),ar (.lst S.length),K,H,none] (S++[T.map tupI])=ar (.ok (uK n T),S++[T.map tupI]):=um (NX ((I _).trans (by rw[hno])) _) ((sF (x:=.lst S.length) rfl).trans (C3 (by rw[Nt];unfold lim;omega)));have P:IC (bV (aH (az dH (ae (mV 5) aq)))) (mV 5) (mK .non) [ar (.str (st l)),ar (.fz L),ar (.lst S.length),K,H,ar (uK n T)]=aw (Gd (if iX (uK n T)=c_ then ar (n,T)else none)):=iff_eq (y:=.non) (fX (lh ((b7 rfl).trans (Gb O (by omega))))) (λh=>by rw[if_pos h];rfl) (λh=>by rw[if_neg (by rw[h];decide)];rfl);exact fin _ [T.map tupI] (FM _ _ ((aL (m5 N F)).trans ((aL (bN W)).trans (gI (NX P _)))))
  ·rw[if_neg h58];exact fin _ _ (back (by rw[NQ h58];rfl))
theorem JH:∀o,fy 0 (Gd o)=c_
 |none=>rfl
 |some (n,T)=>qE (n:=n) (E:=T)
theorem Gf(Y:asc l)(X:l.length<=640)(Z:l.count 32<=60):iH (cV [.str (st l)])=aw (Gd (A4 l)):=GR (JH _) λS=>by obtain⟨G,h⟩:=JG (S:=S) Y X Z;exact⟨_,_,h,rfl,G,rfl⟩
end
abbrev wS(ws:List (List Nat)):List D:=ws.map λw=>D.str (st w)
theorem Gg(ws:List (List Nat))(i:Nat):wS (ws.take i)=(wS ws).take i:=List.map_take ..
theorem Gh(ws:List (List Nat))(i:Nat):wS (ws.drop i)=(wS ws).drop i:=Rz ..
theorem JI(xs ys:List (List Nat)):wS (xs++ys)=wS xs++wS ys:=OF ..
theorem Gi(l:List D)(i:Nat):S3.cutD l none (ar (i:Int))=l.take i:=by
 unfold S3.cutD;rw[HT.sIx_none,HT.sIx_nat,Pk,Ru];by_cases h:i<=l.length
 ·rw[QH h]
 ·rw[Qu (by omega),Oe (Nu _),Oe (by omega)]
theorem A5(l:List D)(i:Nat):S3.cutD l (ar (i:Int)) none=l.drop i:=by
 unfold S3.cutD;rw[HT.sIx_none,HT.sIx_nat];by_cases h:i<=l.length
 ·rw[QH h];exact Oe (by rw[NO];exact Nu _)
 ·rw[Qu (by omega),Pn (Nu _),Pn (by omega),List.take_nil]
section
variable {ρ:aI}{e e1 e2 o:TM}{ws xs ys:List (List Nat)}{i:Nat}{w l:List Nat}
theorem LM(h:e ρ=bp (wS ws))(Z:ws.length<=1000):aH e ρ=aw (.fz (wS ws)):=by unfold aH;rw[h];exact bJ (gq _) (by rw[Nt];unfold lim;omega)
theorem D8(h:e ρ=aw (.fz (wS ws)))(Y:o ρ=aw (.int i))(X:ws.length<=1000):aH (i3 e oN (oS o)) ρ=aw (.fz (wS (ws.take i))):=LM (by show(e ρ>>=λx=>oN ρ>>=λlo=>oS o ρ>>=λZ=>pB x lo Z)=_;rw[h,aj];show((o ρ>>=_)>>=_)=_;rw[Y];show bp (S3.cutD (wS ws) none (ar (i:Int)))=_;rw[Gi,Gg]) (by rw[N5];omega)
theorem qR(h:e ρ=aw (.fz (wS ws)))(Y:o ρ=aw (.int i))(X:ws.length<=1000):aH (i3 e (oS o) oN) ρ=aw (.fz (wS (ws.drop i))):=LM (by show(e ρ>>=λx=>oS o ρ>>=λlo=>oN ρ>>=λZ=>pB x lo Z)=_;rw[h,aj];show((o ρ>>=_)>>=_)=_;rw[Y];show bp (S3.cutD (wS ws) (ar (i:Int)) none)=_;rw[A5,Gh]) (by rw[NO];omega)
theorem addW(Y:e1 ρ=aw (.fz (wS xs)))(Z:e2 ρ=aw (.fz (wS ys)))(X:xs.length+ys.length<=1000):aH (aP bB e1 e2) ρ=aw (.fz (wS (xs++ys))):=LM (by rw[cG Y Z,JI];rfl) (by rw[Nr];exact X)
theorem MN(h:e ρ=aw (.str (st w))):aH (bb (ae e aq)) ρ=aw (.fz (wS [w])):=things (aR h (es:=aq) rfl) rfl (by show 1<=50;decide)
theorem D9(h:e ρ=aw (.fz (wS ws)))(Z:(ws.map nC).sum+ws.length<=100000):cF fC (mK (.str (" ":Str))) e ρ=aw (.str (st (jn [32] ws))):=
 join_eq (sep:=[32]) (Of (λs:Str=>(aw (D.str s):M D)) nU) h (by show _+_*1<=_;omega)
theorem zK{Z:Type}{us:List Z}{j:Nat}{d:Z}(h:us[j]? =ar d):iI us (j:Int)=ar d:=by have:=(Nx.mp h).1;unfold iI wV;rw[if_pos (by omega),if_pos (by omega)];simpa using h
theorem MO{j:Nat}(Y:e1 ρ=aw (.fz (wS ws)))(Z:e2 ρ=aw (.int j))(X:j<ws.length):aP cz e1 e2 ρ=aw (.str (st (ws.getD j []))):=by rw[cG Y Z];show(match iI (wS ws) (j:Int)with|some d=>(aw d:M D)|none=>M.fail)=_;rw[zK (d:=.str (st (ws.getD j []))) (by rw[NP,NC,Nw X];rfl)]
theorem M3{j:Nat}(Y:j<l.length)(Z:l.length<=10000):iV (.str (st l)) (.int j)=aw (.str (st [l.getD j 0])):=by show(match iI l (j:Int)with|some c=>if (st l).length<=10000 then (aw (.str ⟨#[c]⟩):M D)else M.fail|none=>M.fail)=_;rw[zK (d:=l.getD j 0) (by rw[NC,Nw Y];rfl)];dsimp only;rw[dY,if_pos Z];rfl
theorem Ea(h:e ρ=aw (.str (st l)))(Y:o ρ=aw (.int i))(Z:l.length<=10000):fY e oN (oS o) ρ=aw (.str (st (l.take i))):=by rw[<-Jc];exact qk h rfl (by show(o ρ>>=_)=_;rw[Y];rfl) Z
theorem qS(h:e ρ=aw (.str (st l)))(Y:o ρ=aw (.int i))(Z:l.length<=10000):fY e (oS o) oN ρ=aw (.str (st (l.drop i))):=by rw[<-Di];exact qk h (by show(o ρ>>=_)=_;rw[Y];rfl) rfl Z
theorem JJ(h:e ρ=aw (.str (st l)))(Z:l.length<=10000):∃m,fY e (oS (mK (.int 1))) (oS (mK (.int 2))) ρ=aw (.str (st m))/\m.length<=1/\∀c∈m,c∈l:=by refine⟨_,qk h (a:=ar ((1:Nat):Int)) (b:=ar ((2:Nat):Int)) rfl rfl Z,?_,λc Y=>Ob (OE Y)⟩;unfold kU;rw[HT.sIx_nat,HT.sIx_nat,N5,NO];omega
end
def G8:List Nat:=[32,33,34,35,36,38,39,40,41,42,43,44,45,46,47,48,49,50,51,52,53,54,55,56,57,58,59,60,61,62,63,64,65,66,67,68,69,70,71,72,73,74,75,76,77,78,79,80,81,82,83,84,85,86,87,88,89,90,91,92,93,94,95,96,97,98,99,100,101,102,103,104,105,106,107,108,109,110,111,112,113,114,115,116,117,118,119,120,121,122,123,124,125,126]
theorem JK:(" !\"#$&'()*+,-./0123456789:;<=>?@ABCDEFGHIJKLMNOPQRSTUVWXYZ[\\]^_`abcdefghijklmnopqrstuvwxyz{|}~":Str)=st G8:=by decide+kernel
def G9:List Nat:=[48,49,50,51,52,53,54,32,58,45]
theorem JL:("0123456 :-":Str)=st G9:=by decide+kernel
theorem zM:∀j:Nat,G8.getD j 0<128/\G9.getD j 0<128:=λj=>by
 by_cases h:j<94
 ·have:∀j,j<94->G8.getD j 0<128/\G9.getD j 0<128:=by decide+kernel
  exact this j h
 ·rw[NC,NC,Oj (by show 94<=j;omega),Oj (by show 10<=j;omega)]
  decide
def rW(W:Nat)(l:List Nat):Prop:=∀a b c,l=a++(b++c)->32∉b->b.length<=W
theorem Eb{W:Nat}{l a m c:List Nat}(e:l=a++(m++c))(h:rW W l):rW W m:=λx b y q Z=>h (a++x) b (y++c) (by rw[e,q];simp) Z
theorem Gj{W:Nat}{l:List Nat}(i:Nat)(h:rW W l):rW W (l.take i):=Eb (a:=[]) (c:=l.drop i) (by simp) h
theorem Gk{W:Nat}{l:List Nat}(i:Nat)(h:rW W l):rW W (l.drop i):=Eb (a:=l.take i) (c:=[]) (by simp) h
theorem x8{W:Nat}{l:List Nat}(h:l.length<=W):rW W l:=λa b c e _=>by have:=Of nC e;rw[Nr,Nr]at this;omega
theorem zN{W V:Nat}{l:List Nat}(h:rW W l)(k:W<=V):rW V l:=λa b c e Z=>Nz (h a b c e Z) k
theorem Ec{W V:Nat}{x y:List Nat}(Y:rW W x)(X:rW V y):rW (W+V) (x++y):=λa b c e Z=>by
 rcases O8.mp e with⟨a',e1,e2⟩|⟨c',e1,e2⟩
 ·exact Nz (X a' b c e2 Z) (by omega)
 ·rcases O8.mp e2 with⟨d,e3,e4⟩|⟨d,e3,e4⟩
  ·exact Nz (Y a b d (by rw[e1,e3]) Z) (by omega)
  ·have p:=Y a c' [] (by rw[e1];simp) λz=>Z (by rw[e3];exact O9 _ z);have q:=X [] d c (by rw[e4];rfl) λz=>Z (by rw[e3];exact NS _ z);rw[e3,Nr];omega
theorem Ed{W:Nat}:∀{ws:List (List Nat)},(∀w∈ws,w.length<=W)->rW W (jn [32] ws)
 |[],_=>x8 (NN _)
 |[x],h=>x8 (h x (.head _))
 | x::y::r,h=>λa b c e Z=>by
  have X:=Ed (ws:=y::r) λw hw=>h w (.tail _ hw);have U:=h x (.head _);have e:x++(32::jn [32] (y::r))=a++(b++c):=e;generalize jn [32] (y::r)=J at X e;rcases O8.mp e with⟨a',e1,e2⟩|⟨c',e1,e2⟩
  ·cases a' with
   |nil=>
    cases b with
    |nil=>exact NN _
    |cons z b=>exact(Z (by rw[show 32=z from(Oc e2).1];exact .head _)).elim
   |cons z a'=>exact X a' b c (Oc e2).2 Z
  ·have Y:c'.length<=W:=by
    have:=Of nC e1;rw[Nr]at this;omega
   rcases O8.mp e2 with⟨d,e3,e4⟩|⟨d,e3,e4⟩
   ·rw[e3,Nr]at Y;omega
   ·cases d with
    |nil=>rw[e3,Om];exact Y
    |cons z d=>exact(Z (by rw[e3,show 32=z from(Oc e4).1];exact NS _ (.head _))).elim
theorem Gm{c:Nat}{ws:List (List Nat)}{w:List Nat}(h:w∈ws):∃a b,jn [c] ws=a++(w++b):=by
 cases ws with
 |nil=>cases h
 | cons x ws=>
  rw[sR];rcases NB.mp h with rfl|h
  ·exact⟨[],_,rfl⟩
  ·obtain⟨s,t,rfl⟩:=List.append_of_mem h;exact⟨x++(s.map λw=>c::w).flatten++[c],(t.map λw=>c::w).flatten,by simp⟩
theorem zO{W:Nat}{l w:List Nat}(h:rW W l)(Z:w∈sp 32 l):w.length<=W:=by obtain⟨a,b,e⟩:=Gm (c:=32) Z;rw[kY]at e;exact h a w b e (sS 32 l w Z)
def qW(ws:List (List Nat)):Nat:=(ws.map λw=>w.length+1).sum
theorem nv(xs ys:List (List Nat)):qW (xs++ys)=qW xs+qW ys:=by unfold qW;rw[OF,List.sum_append]
theorem mE(x:List Nat)(ys:List (List Nat)):qW (x::ys)=x.length+1+qW ys:=by unfold qW;rw[NI,Rl]
theorem Ha(ws:List (List Nat))(i:Nat):qW (ws.take i)+qW (ws.drop i)=qW ws:=by rw[<-nv,O6]
theorem Gn(ws:List (List Nat))(i:Nat):qW (ws.drop (i+1))<=qW (ws.drop i):=by
 rw[<-PD];cases ws.drop i with
 |nil=>exact Nu _
 |cons x r=>rw[mE];show qW r<=_;omega
theorem uL:∀ws:List (List Nat),(ws.map nC).sum+ws.length=qW ws
 |[]=>rfl
 |x::r=>by
  have:=uL r;rw[mE,NI,Rl,NH];omega
theorem JM:∀ws:List (List Nat),ws≠[]->(jn [32] ws).length+1=qW ws
 |[],h=>(h rfl).elim
 |[x],_=>rfl
 |x::y::r,_=>by
  have:=JM (y::r) (OK _ _);rw[kh,mE, <-this,Nr,Nr];show _+(1+_)+1=_;omega
theorem Ly(ws:List (List Nat)):(jn [32] ws).length<=qW ws:=by
 by_cases h:ws=[]
 ·subst h;exact Nu _
 ·have:=JM ws h;omega
theorem x9:∀{ws:List (List Nat)},(∀w∈ws,32∉w)->(jn [32] ws).count 32<=ws.length
 |[],_=>NN _
 |[x],h=>by
  show x.count 32<=1;rw[Qw (h x (.head _))];omega
 |x::y::r,h=>by
  have Z:=x9 (ws:=y::r) λw hw=>h w (.tail _ hw);rw[kh,Pc,Pc,Qw (h x (.head _)),NH];show 0+(1+_)<=_;omega
theorem Ee:∀{ws:List (List Nat)},(∀w∈ws,asc w)->asc (jn [32] ws)
 |[],_=>λc Z=>by cases Z
 |[x],h=>h x (.head _)
 |x::y::r,h=>km (h x (.head _)) (km (by decide) (Ee λw hw=>h w (.tail _ hw)))
structure TxB(L W C:Nat)(l:List Nat):Prop where
 asc:asc l
 len:l.length<=L
 run:rW W l
 cnt:l.count 32<=C
section
variable {L W C:Nat}{l:List Nat}
theorem TxB.app(h:TxB L W C l){m:List Nat}{i j:Nat}(Y:i<=j)(X:m.length<=2)(U:∀c∈m,c<128):TxB (L+W+2) (2*W+2) (C+2) (l.take i++(m++l.drop j)):=by
 have e1:=Of nC (O6 i l);have e2:=Of (List.count 32) (O6 i l);rw[Nr]at e1;rw[Pc]at e2;obtain⟨k,rfl⟩:=Nat.exists_eq_add_of_le Y;have Q:(l.drop (i+k)).length<=(l.drop i).length:=by rw[NO,NO];omega
 have S:(l.drop (i+k)).count 32<=(l.drop i).count 32:=by rw[<-PD];exact(List.drop_sublist k _).count_le _
 have R:m.count 32<=m.length:=Qz;have T:=h.len;have Z:=h.cnt;refine⟨km (λc Z=>h.asc c (OE Z)) (km U λc Z=>h.asc c (Ob Z)),?_,zN (Ec (Gj i h.run) (Ec (x8 X) (Gk (i+k) h.run))) (by omega),?_⟩
 ·rw[Nr,Nr];omega
 ·rw[Pc,Pc];omega
theorem TxB.jn(h:TxB L W C l){ws:List (List Nat)}(hs:∀w∈ws,w∈sp 32 l)(X:qW ws<=l.length+W+2)(T:ws.length<=l.count 32+2):TxB (L+W+2) (2*W+2) (C+2) (jn [32] ws):=by have U:=h.len;have Z:=h.cnt;have Y:=Ly ws;have S:=x9 λw hw=>sS 32 l w (hs w hw);exact⟨Ee λw hw c Z=>h.asc c (k9 (hs w hw) Z),by omega,zN (Ed λw hw=>zO h.run (hs w hw)) (by omega),by omega⟩
end
abbrev Gp:D:=.str " !\"#$&'()*+,-./0123456789:;<=>?@ABCDEFGHIJKLMNOPQRSTUVWXYZ[\\]^_`abcdefghijklmnopqrstuvwxyz{|}~"
section
variable {S:aB}{k:Nat}{ρ:aI}
theorem Gq(hs:eN S k)(Y:mV 0 ρ=aw (.lst k))(I:mV 3 ρ=aw Gp):∃c S1,aP cz (aH (bb (ae (aP iV (mV 3) (aH (az ay (ae (mV 0) (ae (mK (.int 94)) aq))))) (ae (aP iV (mK (.str "0123456 :-")) (aH (az ay (ae (mV 0) (ae (mK (.int 10)) aq))))) aq)))) (aH (az ay (ae (mV 0) (ae (mK (.int 2)) aq)))) ρ S=ar (.ok (.str (st [c])),S1)/\c<128/\Kp k S S1/\S1.length=S.length:=by
 obtain⟨a,S1,e1,O,a1,k1,W⟩:=f7 (e1:=mV 0) (e2:=mK (.int 94)) (ρ:=ρ) (m:=94) hs Y rfl (by decide) (by decide);obtain⟨b,Z,e2,Q,F,k2,U⟩:=f7 (e1:=mV 0) (e2:=mK (.int 10)) (ρ:=ρ) (m:=10) k1.st Y rfl (by decide) (by decide);obtain⟨j,T,H,L,N,k3,G⟩:=f7 (e1:=mV 0) (e2:=mK (.int 2)) (ρ:=ρ) (m:=2) k2.st Y rfl (by decide) (by decide);obtain⟨a,rfl⟩:=Oq O;obtain⟨b,rfl⟩:=Oq Q;obtain⟨j,rfl⟩:=Oq L;have J:aP iV (mV 3) (aH (az ay (ae (mV 0) (ae (mK (.int 94)) aq)))) ρ S=ar (.ok (.str (st [G8.getD a 0])),S1):=(gi (NX I S) e1).trans (NX ((Of (λs:Str=>iV (.str s) (.int a)) JK).trans (M3 (by show a<94;omega) (by decide))) S1);have R:aP iV (mK (.str "0123456 :-")) (aH (az ay (ae (mV 0) (ae (mK (.int 10)) aq)))) ρ S1=ar (.ok (.str (st [G9.getD b 0])),Z):=(gi (x:=.str "0123456 :-") (S1:=S1) rfl e2).trans (NX ((Of (λs:Str=>iV (.str s) (.int b)) JL).trans (M3 (by show b<10;omega) (by decide))) Z);have K:aH (bb (ae (aP iV (mV 3) (aH (az ay (ae (mV 0) (ae (mK (.int 94)) aq))))) (ae (aP iV (mK (.str "0123456 :-")) (aH (az ay (ae (mV 0) (ae (mK (.int 10)) aq))))) aq))) ρ S=ar (.ok (.fz (wS [[G8.getD a 0],[G9.getD b 0]])),Z):=qF (uq (S1:=Z) (cH J (cH R rfl)) ui) (k1.trans k2) (U.trans W) rfl;have X:=(gi K H (f:=cz)).trans (NX ((cG (m:=mK (.fz (wS [[G8.getD a 0],[G9.getD b 0]]))) (n:=mK (.int j)) (ρ:=[]) (f:=cz) rfl rfl).symm.trans (MO rfl rfl (by show j<2;omega))) T);have P:([[G8.getD a 0],[G9.getD b 0]]:List (List Nat)).getD j []=[if j=0 then G8.getD a 0 else G9.getD b 0]:=by
  match j,N with
  |0,_=>rfl
  |1,_=>rfl
  |j+2,h=>omega
 rw[P]at X;refine⟨_,T,X,?_,(k1.trans k2).trans k3,G.trans (U.trans W)⟩;split
 ·exact(zM a).1
 ·exact(zM b).2
variable {L W C:Nat}{l:List Nat}
theorem Ef{ws:List (List Nat)}(h:mV 7 ρ=aw (.fz (wS ws))):cm fW (mV 7) ρ=aw (.int ws.length):=by
 have:=C4 (e:=mV 7) h
 rwa [Nt]at this
theorem Gr(hs:eN S k)(h:TxB L W C l)(hL:L+W<=640)(hC:C<=60):∃l' S1,iH (fb [.lst k,.str (st l)]) S=ar (.ok (.str (st l')),S1)/\TxB (L+W+2) (2*W+2) (C+2) l'/\Kp k S S1/\S1.length=S.length:=by
 have hl:l.length<=640:=Nz h.len (by omega);have m2:=h.cnt;have b2:=kZ 32 l;have hq:qW (sp 32 l)=l.length+1:=by have:=JM (sp 32 l) (qN 32 l);rw[kY]at this;exact this.symm
 obtain⟨i,S1,e1,i0,i1,k1,l1⟩:=f7 (e1:=mV 0) (e2:=aP bB (cm jt (mV 1)) (mK (.int 1))) (ρ:=[ar (.lst k),ar (.str (st l)),none,none,none,none,none,none,none,none,none,none,none]) (m:=l.length+1) hs rfl ((cG (uG rfl (by omega)) rfl).trans rfl) (by omega) (by omega);obtain⟨i,rfl⟩:=Oq i0;obtain⟨c,S2,e2,I,k2,l2⟩:=Gq (S:=S1) (ρ:=[ar (.lst k),ar (.str (st l)),ar (.int i),ar Gp,none,none,none,none,none,none,none,none,none]) k1.st rfl rfl;have H:ae (fY (mV 1) oN (oS (mV 2))) (ae (fY (mV 1) (oS (mV 2)) oN) aq) [ar (.lst k),ar (.str (st l)),ar (.int i),ar Gp,ar (.str (st [c])),none,none,none,none,none,none,none,none]=aw [.str (st (l.take i)),.str (st (l.drop i))]:=aR (Ea rfl rfl (by omega)) (aR (qS rfl rfl (by omega)) (es:=aq) rfl);have U:aH (cF df (mV 1) (mK (.str (" ":Str)))) [ar (.lst k),ar (.str (st l)),ar (.int i),ar Gp,ar (.str (st [c])),ar (.str (st (l.take i))),ar (.str (st (l.drop i))),none,none,none,none,none,none]=aw (.fz (wS (sp 32 l))):=LM (jP (c:=32) rfl (Of (λs:Str=>(aw (D.str s):M D)) nU) (zz 32 _) (by omega) (by omega)) (by omega);generalize hws:sp 32 l=ws at U b2 hq;obtain⟨p,S3,e3,p0,p1,k3,l3⟩:=f7 (e1:=mV 0) (e2:=cm fW (mV 7)) (ρ:=[ar (.lst k),ar (.str (st l)),ar (.int i),ar Gp,ar (.str (st [c])),ar (.str (st (l.take i))),ar (.str (st (l.drop i))),ar (.fz (wS ws)),none,none,none,none,none]) (m:=ws.length) k2.st rfl (Ef rfl) (by omega) (by omega);obtain⟨o,b,e4,o0,o1,k4,l4⟩:=f7 (e1:=mV 0) (e2:=cm fW (mV 7)) (ρ:=[ar (.lst k),ar (.str (st l)),ar (.int i),ar Gp,ar (.str (st [c])),ar (.str (st (l.take i))),ar (.str (st (l.drop i))),ar (.fz (wS ws)),none,none,none,none,none]) (m:=ws.length) k3.st rfl (Ef rfl) (by omega) (by omega);obtain⟨p,rfl⟩:=Oq p0;obtain⟨o,rfl⟩:=Oq o0;have p1:p<ws.length:=by omega
 obtain⟨w,hw,N⟩:∃w,ws.getD p []=w/\w∈ws:=⟨_,rfl,by rw[NC,Nw p1];exact OG p1⟩;have k0:w.length<=W:=zO h.run (hws ▸ N);generalize hρ:(λx10 x11 x12:Option D=>[ar (D.lst k),ar (D.str (st l)),ar (D.int i),ar Gp,ar (D.str (st [c])),ar (D.str (st (l.take i))),ar (D.str (st (l.drop i))),ar (D.fz (wS ws)),ar (D.int p),ar (D.int o),x10,x11,x12])=E;have g1:∀x y z,mV 1 (E x y z)=aw (.str (st l)):=λx y z=>by rw[<-hρ];rfl
 have g4:∀x y z,mV 4 (E x y z)=aw (.str (st [c])):=λx y z=>by rw[<-hρ];rfl
 have g5:∀x y z,mV 5 (E x y z)=aw (.str (st (l.take i))):=λx y z=>by rw[<-hρ];rfl
 have A:∀x y z,mV 6 (E x y z)=aw (.str (st (l.drop i))):=λx y z=>by rw[<-hρ];rfl
 have a:∀x y z,mV 7 (E x y z)=aw (.fz (wS ws)):=λx y z=>by rw[<-hρ];rfl
 have d:∀x y z,mV 8 (E x y z)=aw (.int p):=λx y z=>by rw[<-hρ];rfl
 have c4:∀x y z,aP bB (mV 8) (mK (.int 1)) (E x y z)=aw (.int ((p+1:Nat):Int)):=λx y z=>(cG (d x y z) rfl).trans rfl;have g9:∀x y z,mV 9 (E x y z)=aw (.int o):=λx y z=>by rw[<-hρ];rfl
 have c5:∀x y z,mV 10 (E (ar x) y z)=aw x:=λx y z=>by rw[<-hρ];rfl
 have Q:∀x y z,mV 11 (E x (ar y) z)=aw y:=λx y z=>by rw[<-hρ];rfl
 have u:∀x y z,mV 12 (E x y (ar z))=aw z:=λx y z=>by rw[<-hρ];rfl
 have dl:(l.drop i).length<=640:=by rw[NO];omega
 have tl:(l.take i).length<=640:=by rw[N5];omega
 obtain⟨m,hm,ml,mm⟩:=JJ (e:=mV 6) (A (ar (.str (st w))) none none) (by omega);have d1:∀x y z,fY (mV 6) (oS (mK (.int 1))) oN (E x y z)=aw (.str (st ((l.drop i).drop 1))):=λx y z=>qS (i:=1) (A x y z) rfl (by omega);have d2:∀x y z,fY (mV 6) (oS (mK (.int 2))) oN (E x y z)=aw (.str (st ((l.drop i).drop 2))):=λx y z=>qS (i:=2) (A x y z) rfl (by omega);have d3:∀x y z,fY (mV 6) oN (oS (mK (.int 1))) (E x y z)=aw (.str (st ((l.drop i).take 1))):=λx y z=>Ea (i:=1) (A x y z) rfl (by omega);have o4:((l.drop i).drop 1).length<=640:=by rw[NO];omega
 have p2:((l.drop i).drop 2).length<=640:=by rw[NO];omega
 have m1:((l.drop i).take 1).length<=640:=by rw[N5];omega
 have cl:[c].length=1:=rfl;have s0:=eu (g5 (ar (.str (st w))) none none) (d1 _ _ _) (by omega);have G:=eu (g5 (ar (.str (st w))) none none) (g4 _ _ _) (by omega);have s1:=eu G (A _ _ _) (by rw[Nr];omega);have s2:=eu G (d1 _ _ _) (by rw[Nr];omega);have s3:=eu (eu (eu (g5 (ar (.str (st w))) none none) hm (by omega)) (d3 _ _ _) (by rw[Nr];omega)) (d2 _ _ _) (by rw[Nr,Nr];omega);have Y:=things (us:=wS [l.take i++(l.drop i).drop 1,l.take i++[c]++l.drop i,l.take i++[c]++(l.drop i).drop 1,l.take i++m++(l.drop i).take 1++(l.drop i).drop 2]) (aR s0 (aR s1 (aR s2 (aR s3 (es:=aq) rfl)))) rfl (by show 4<=50;decide);have tw:∀x y z,aH (i3 (mV 7) oN (oS (mV 8))) (E x y z)=aw (.fz (wS (ws.take p))):=λx y z=>D8 (a x y z) (d x y z) (by omega);have dw:∀x y z,aH (i3 (mV 7) (oS (mV 8)) oN) (E x y z)=aw (.fz (wS (ws.drop p))):=λx y z=>qR (a x y z) (d x y z) (by omega);have c2:∀x y z,aH (i3 (mV 7) (oS (aP bB (mV 8) (mK (.int 1)))) oN) (E x y z)=aw (.fz (wS (ws.drop (p+1)))):=λx y z=>qR (a x y z) (c4 x y z) (by omega);have h9:(ws.take p).length<=61:=by rw[N5];omega
 have o3:(ws.drop p).length<=61:=by rw[NO];omega
 have e8:(ws.drop (p+1)).length<=61:=by rw[NO];omega
 have rest:∀x y z,aH (aP bB (aH (i3 (mV 7) oN (oS (mV 8)))) (aH (i3 (mV 7) (oS (aP bB (mV 8) (mK (.int 1)))) oN))) (E x y z)=aw (.fz (wS (ws.take p++ws.drop (p+1)))):=λx y z=>addW (tw x y z) (c2 x y z) (by omega);have td:=Ha ws p;have p5:=Gn ws p;have qr:qW (ws.take p++ws.drop (p+1))<=l.length+1:=by rw[nv];omega
 have lr:(ws.take p++ws.drop (p+1)).length+1=ws.length:=by rw[Nr,N5,NO];omega
 have hr:∀v∈ws.take p++ws.drop (p+1),v∈ws:=λv Z=>(Oi.mp Z).elim OE Ob;generalize ws.take p++ws.drop (p+1)=R at rest qr lr hr;have w1:∀y z,aH (bb (ae (mV 10) aq)) (E (ar (.str (st w))) y z)=aw (.fz (wS [w])):=λy z=>MN (c5 _ y z);have j4:∀y z,cF fC (mK (.str (" ":Str))) (aH (aP bB (aH (i3 (mV 7) oN (oS (mV 8)))) (aH (i3 (mV 7) (oS (aP bB (mV 8) (mK (.int 1)))) oN)))) (E (ar (.str (st w))) y z)=aw (.str (st (jn [32] R))):=λy z=>D9 (rest _ _ _) (by rw[uL];omega);have q5:qW (ws.take p++[w]++ws.drop p)=l.length+w.length+2:=by rw[nv,nv,mE];show _+(_+1+0)+_=_;omega
 have n5:(ws.take p++[w]++ws.drop p).length=ws.length+1:=by rw[Nr,Nr,N5,NO];show _+1+_=_;omega
 have h5:∀v∈ws.take p++[w]++ws.drop p,v∈ws:=λv Z=>by
  rcases Oi.mp Z with Z|Z
  ·rcases Oi.mp Z with Z|Z
   ·exact OE Z
   ·rw[NV.mp Z];exact N
  ·exact Ob Z
 have j5:∀y z,cF fC (mK (.str (" ":Str))) (aH (aP bB (aH (aP bB (aH (i3 (mV 7) oN (oS (mV 8)))) (aH (bb (ae (mV 10) aq))))) (aH (i3 (mV 7) (oS (mV 8)) oN)))) (E (ar (.str (st w))) y z)=aw (.str (st (jn [32] (ws.take p++[w]++ws.drop p)))):=λy z=>D9 (addW (addW (tw _ _ _) (w1 y z) (by show _+1<=_;omega)) (dw _ _ _) (by rw[Nr];show _+1+_<=_;omega)) (by rw[uL];omega);have J:∀(z:Option D) (X:List (List Nat)),X.length<=20->aH (aP bB (mV 11) (aH (bb (ae (cF fC (mK (.str " ")) (aH (aP bB (aH (i3 (mV 7) oN (oS (mV 8)))) (aH (i3 (mV 7) (oS (aP bB (mV 8) (mK (.int 1)))) oN))))) (ae (cF fC (mK (.str " ")) (aH (aP bB (aH (aP bB (aH (i3 (mV 7) oN (oS (mV 8)))) (aH (bb (ae (mV 10) aq))))) (aH (i3 (mV 7) (oS (mV 8)) oN))))) aq))))) (E (ar (.str (st w))) (ar (.fz (wS X))) z)=aw (.fz (wS (X++[jn [32] R,jn [32] (ws.take p++[w]++ws.drop p)]))):=λz X q=>addW (Q _ _ _) (things (aR (j4 _ _) (aR (j5 _ _) (es:=aq) rfl)) rfl (by show 2<=50;decide)) (by show _+2<=_;omega);have q6:qW (R.take o++[w]++R.drop o)<=l.length+w.length+2:=by have:=Ha R o;rw[nv,nv,mE];show _+(_+1+0)+_<=_;omega
 have n6:(R.take o++[w]++R.drop o).length=R.length+1:=by rw[Nr,Nr,N5,NO];show _+1+_=_;omega
 have h6:∀v∈R.take o++[w]++R.drop o,v∈ws:=λv Z=>by
  rcases Oi.mp Z with Z|Z
  ·rcases Oi.mp Z with Z|Z
   ·exact hr v (OE Z)
   ·rw[NV.mp Z];exact N
  ·exact hr v (Ob Z)
 have n2:(R.take o).length<=61:=by rw[N5];omega
 have o2:(R.drop o).length<=61:=by rw[NO];omega
 have j6:∀y,cF fC (mK (.str (" ":Str))) (aH (aP bB (aH (aP bB (aH (i3 (mV 12) oN (oS (mV 9)))) (aH (bb (ae (mV 10) aq))))) (aH (i3 (mV 12) (oS (mV 9)) oN)))) (E (ar (.str (st w))) y (ar (.fz (wS R))))=aw (.str (st (jn [32] (R.take o++[w]++R.drop o)))):=λy=>D9 (addW (addW (D8 (u _ _ _) (g9 _ _ _) (by omega)) (w1 _ _) (by show _+1<=_;omega)) (qR (u _ _ _) (g9 _ _ _) (by omega)) (by rw[Nr];show _+1+_<=_;omega)) (by rw[uL];omega);have bl:∀x y z,mK (.str (" ":Str)) (E x y z)=aw (.str (st [32])):=λx y z=>Of (λs:Str=>(aw (D.str s):M D)) nU;have o7:[32].length=1:=rfl;have K:∀X,X.length<=20->aH (aP bB (mV 11) (aH (bb (aQ (cF fC (mK (.str " ")) (aH (aP bB (aH (aP bB (aH (i3 (mV 12) oN (oS (mV 9)))) (aH (bb (ae (mV 10) aq))))) (aH (i3 (mV 12) (oS (mV 9)) oN))))) (aQ (mV 1) (aQ (aP dQ (mK (.str " ")) (mV 1)) (aQ (aP dQ (mV 1) (mK (.str " "))) aq))))))) (E (ar (.str (st w))) (ar (.fz (wS X))) (ar (.fz (wS R))))=aw (.fz (wS (X++[jn [32] (R.take o++[w]++R.drop o),l,[32]++l,l++[32]]))):=λX q=>addW (Q _ _ _) (things (aR (j6 _) (aR (g1 _ _ _) (aR (eu (bl _ _ _) (g1 _ _ _) (by show 1+_<=_;omega)) (aR (eu (g1 _ _ _) (bl _ _ _) (by show _+1<=_;omega)) (es:=aq) rfl)))) rfl (by show 4<=50;decide)) (by show _+4<=_;omega);generalize hts:([l.take i++(l.drop i).drop 1,l.take i++[c]++l.drop i,l.take i++[c]++(l.drop i).drop 1,l.take i++m++(l.drop i).take 1++(l.drop i).drop 2]:List (List Nat))=T1 at Y;have b3:T1.length=4:=by rw[<-hts];rfl
 have f2:=J none T1 (by omega);have f3:=K (T1++[jn [32] R,jn [32] (ws.take p++[w]++ws.drop p)]) (by rw[Nr];show _+2<=_;omega);generalize hT:T1++[jn [32] R,jn [32] (ws.take p++[w]++ws.drop p)]++[jn [32] (R.take o++[w]++R.drop o),l,[32]++l,l++[32]]=T at f3;have i2:T.length=10:=by rw[<-hT,Nr,Nr,b3];rfl
 obtain⟨z,S5,e5,z0,z1,k5,l5⟩:=f7 (e1:=mV 0) (e2:=mK (.int 10)) (ρ:=E (ar (.str (st w))) (ar (.fz (wS T))) (ar (.fz (wS R)))) (m:=10) k4.st (by rw[<-hρ];rfl) rfl (by decide) (by decide);obtain⟨z,rfl⟩:=Oq z0;have z1:z<T.length:=by omega
 have r:aP cz (mV 11) (aH (az ay (ae (mV 0) (ae (mK (.int 10)) aq)))) (E (ar (.str (st w))) (ar (.fz (wS T))) (ar (.fz (wS R)))) b=ar (.ok (.str (st (T.getD z []))),S5):=(gi (NX (Q _ _ _) b) e5).trans (NX ((cG (m:=mK (.fz (wS T))) (n:=mK (.int z)) (ρ:=[]) (f:=cz) rfl rfl).symm.trans (MO rfl rfl z1)) S5);have F:T.getD z []∈T:=by rw[NC,Nw z1];exact OG z1
 have g:∀t∈T,TxB (L+W+2) (2*W+2) (C+2) t:=λt q=>by
  rw[<-hT, <-hts]at q;have a0:=h.app (m:=[]) (i:=i) (j:=i+1) (by omega) (by decide) (λc I=>by cases I);have a1:=h.app (m:=[c]) (i:=i) (j:=i) (by omega) (by show 1<=2;decide) (λx B=>by rw[NV.mp B];exact I);have a2:=h.app (m:=[c]) (i:=i) (j:=i+1) (by omega) (by show 1<=2;decide) (λx B=>by rw[NV.mp B];exact I);have a3:=h.app (m:=m++(l.drop i).take 1) (i:=i) (j:=i+2) (by omega) (by rw[Nr,N5];omega) (λx B=>h.asc x ((Oi.mp B).elim (λz=>Ob (mm x z)) λz=>Ob (OE z)));have a7:=h.app (m:=[]) (i:=0) (j:=0) (by omega) (by decide) (λc I=>by cases I);have a8:=h.app (m:=[32]) (i:=0) (j:=0) (by omega) (by decide) (by decide);have a9:=h.app (m:=[32]) (i:=l.length) (j:=l.length) (by omega) (by decide) (by decide);have b4:=h.jn (ws:=R) (λv Z=>hws ▸ hr v Z) (by omega) (by omega);have b5:=h.jn (ws:=ws.take p++[w]++ws.drop p) (λv Z=>hws ▸ h5 v Z) (by omega) (by omega);have b6:=h.jn (ws:=R.take o++[w]++R.drop o) (λv Z=>hws ▸ h6 v Z) (by omega) (by omega);simp only[RM,Ic,gg,e_,or_false]at q;simp only[Ic,List.take_zero,RR,List.take_length,List.drop_length]at a0 a7 a8 a9;rcases q with rfl|rfl|rfl|rfl|rfl|rfl|rfl|rfl|rfl|rfl
  ·rw[PD];exact a0
  ·rw[NZ];exact a1
  ·rw[PD,NZ];exact a2
  ·rw[PD,NZ,NZ, <-NZ m];exact a3
  ·exact b4
  ·exact b5
  ·exact b6
  ·exact a7
  ·exact a8
  ·exact a9
 have hm:ic [ar (.lst k),ar (.str (st l)),none,none,none,none,none,none,none,none,none,none,none] S=ar (.ok (.ret (.str (st (T.getD z [])))),S5):=by
  unfold ic;refine(aL (bN e1)).trans ((aL (bN (x:=Gp) (S1:=S1) rfl)).trans ((aL (bN e2)).trans ((aL (Dz (NX H S2))).trans ((aL (bN (NX U S2))).trans ((aL (Dz (cH e3 (cH e4 rfl)))).trans ?_)))));have O:∀x y z,E x y z=[ar (D.lst k),ar (D.str (st l)),ar (D.int i),ar Gp,ar (D.str (st [c])),ar (D.str (st (l.take i))),ar (D.str (st (l.drop i))),ar (D.fz (wS ws)),ar (D.int p),ar (D.int o),x,y,z]:=λx y z=>by rw[<-hρ]
  have c1:bx 10 (aP cz (mV 7) (mV 8)) (E none none none)=aw (.nx (E (ar (.str (st w))) none none)):=by rw[ji ((MO (a _ _ _) (d _ _ _) p1).trans (by rw[hw])),O,O];rfl
  have P:∀{e:TM} {x z:D} {y y':Option D},e (E (ar x) y y')=aw z->bx 11 e (E (ar x) y y')=aw (.nx (E (ar x) (ar z) y')):=λh=>by rw[ji h,O,O];rfl
  have b0:∀{e:TM} {x z:D} {y y':Option D},e (E (ar x) y y')=aw z->bx 12 e (E (ar x) y y')=aw (.nx (E (ar x) y (ar z))):=λh=>by rw[ji h,O,O];rfl
  refine((Of (λρ=>aG _ _ ρ b) (O none none none).symm)).trans ?_;exact(NX ((aS c1).trans ((aS (P Y)).trans ((aS (P f2)).trans ((aS (b0 (rest _ _ _))).trans (aS (P f3)))))) b).trans (gI r)
 have kk:=(((k1.trans k2).trans k3).trans k4).trans k5;obtain⟨S6,e6,k6,l6⟩:=zj (c:=fb [.lst k,.str (st l)]) hs (fK (o:=.ret (.str (st (T.getD z [])))) hm rfl) kk rfl;exact⟨_,S6,e6,g _ F,k6,l6⟩
end
theorem MP{n:Nat}{E:List (List Int)}(Z:n<=7)(w:WebOk n E):E.length<=21:=by
 have X:E.Nodup:=w.ris.imp λ{a b} h e=>by subst e;rw[kb]at h;cases h
 refine Nz (DA (m:=dm n) X λt Y=>?_) (ni Z).2;obtain⟨a,b,rfl,h0,U,W⟩:=w.el t Y;unfold dm;refine List.mem_flatMap.mpr ⟨a.toNat,N1.mpr (by omega),?_⟩;unfold rG;refine N8.mpr ⟨b.toNat,Qd.mpr (by omega),?_⟩;rw[PN h0,PN (by omega)]
theorem MQ{n:Nat}{E:List (List Int)}(S:n<=14)(w:WebOk n E)(P:E.length<=21):TxB 129 5 22 (og n E):=by
 have he:∀t∈E,∃a b:Nat,t=[(a:Int),(b:Int)]/\a<100/\b<100:=λt Y=>Jt S w Y;have Q:=uJ (n:=n) (by omega) he;have X:=D7 (n:=n) (by omega) he;have T:∀v∈(dg n++[58])::E.map wd,v.length<=5:=λv Z=>by
  rcases NB.mp Z with rfl|Z
  ·rw[Nr];have:=eV n (by omega);show _+1<=_;omega
  ·obtain⟨t,Y,rfl⟩:=N8.mp Z;obtain⟨a,b,rfl,U,W⟩:=he t Y;exact xT U W
 refine⟨uI (by omega) he,by omega,by rw[qI];exact Ed T,?_⟩;have R:∀v∈(dg n++[58])::E.map wd,32∉v:=λv Z=>sS 32 (og n E) v (by rw[X];exact Z);have:=x9 R;rw[<-qI,NH,Nt]at this;omega
section
variable {S:aB}{k L W C:Nat}{l:List Nat}{o0 o1 o3 o5 o6 o7:Option D}
theorem oK(hs:eN S k)(h:TxB L W C l)(N:L+W<=640)(Q:C<=60):∃Z x6 S1,jT [o0,o1,ar (.lst k),o3,ar (.str (st l)),o5,o6,o7] S=ar (.ok (.nx [o0,o1,ar (.lst k),o3,ar (.str (st Z)),o5,x6,o7]),S1)/\TxB (L+W+2) (2*W+2) (C+2) Z/\Kp k S S1/\S1.length=S.length:=by
 obtain⟨Z,S1,e1,h',k1,J⟩:=Gr hs h N Q;have K:l.length<=640:=Nz h.len (by omega);have X:l.count 32<=60:=Nz h.cnt Q;have hw:=Gf h.asc K X;refine⟨Z,ar (Gd (A4 l)),S1,?_,h',k1,J⟩;unfold jT;have Y:aH (az cV (ae (mV 4) aq)) [o0,o1,ar (.lst k),o3,ar (.str (st l)),o5,o6,o7]=aw (Gd (A4 l)):=by unfold aH;rw[b7 (x:=.str (st l)) rfl];exact hw
 refine(aL (NX (ji Y) S)).trans ?_;have P:aH (az fb (ae (mV 2) (ae (mV 4) aq))) [o0,o1,ar (.lst k),o3,ar (.str (st l)),o5,ar (Gd (A4 l)),o7] S=ar (.ok (.str (st Z)),S1):=by show iH (az _ _ _) S=_;rw[call2 (x:=.lst k) (y:=.str (st l)) rfl rfl];exact e1
 refine(aL (ρ':=[o0,o1,ar (.lst k),o3,ar (.str (st l)),o5,ar (Gd (A4 l)),o7]) (S1:=S) (NX (?_ :_=(aw (.nx [o0,o1,ar (.lst k),o3,ar (.str (st l)),o5,ar (Gd (A4 l)),o7]):M Out)) S)).trans (bN P);cases hI:A4 l with
 | none=>
  have T:∀(n:Nat) (E:List (List Int)),n<=14->WebOk n E->l≠og n E:=λn E U w e=>by rw[e,JF U w]at hI;cases hI
  have I:=Dx (js:=[4]) (ρ:=[o0,o1,ar (.lst k),o3,ar (.str (st l)),o5,ar (.non),o7]) (ds:=[.str (st l)]) (m:=qv) (R:=bw) rfl (MY ((b7 rfl).trans (DS h.asc (by omega) X T))) wt;refine(dz (b:=c_) (bY (x:=.non) (y:=.non) rfl rfl rfl)).trans ((if_pos rfl).trans ?_);exact fE (bY I Dw Lk)
 |some p=>
  obtain⟨n,E⟩:=p;obtain⟨U,w,e⟩:=Ge hI X;have hf:=w.few;refine(dz (b:=dr) (bY (x:=cJ n E) (y:=.non) rfl rfl rfl)).trans ((if_neg (by decide)).trans ?_);refine fE (nb (lh ((call2 (lh ((b7 rfl).trans (by rw[e];exact Jx U w))) (y:=cJ n E) rfl).trans (Ji (by omega) λt O=>?_))));obtain⟨x,y,rfl,_⟩:=w.el t O;exact(by decide:2<=1000)
theorem Eg(hs:eN S k)(h:TxB 129 5 22 l):∃x4 x5 x6 S1,kz (vA (mK (.int 4))) (gN 5) jT [o0,o1,ar (.lst k),o3,ar (.str (st l)),o5,o6,o7] S=ar (.ok (.nx [o0,o1,ar (.lst k),o3,x4,x5,x6,o7]),S1)/\Kp k S S1/\S1.length=S.length:=by obtain⟨A,H,S1,e1,X,k1,N⟩:=oK (o0:=o0) (o1:=o1) (o3:=o3) (o5:=ar (.int (0+((0:Nat):Int)))) (o6:=o6) (o7:=o7) hs h (by decide) (by decide);obtain⟨z,I,B,e2,F,k2,Z⟩:=oK (o0:=o0) (o1:=o1) (o3:=o3) (o5:=ar (.int (0+((1:Nat):Int)))) (o6:=H) (o7:=o7) k1.st X (by decide) (by decide);obtain⟨x,O,y,Q,J,k3,T⟩:=oK (o0:=o0) (o1:=o1) (o3:=o3) (o5:=ar (.int (0+((2:Nat):Int)))) (o6:=I) (o7:=o7) k2.st F (by decide) (by decide);obtain⟨G,R,Y,K,E,U,P⟩:=oK (o0:=o0) (o1:=o1) (o3:=o3) (o5:=ar (.int (0+((3:Nat):Int)))) (o6:=O) (o7:=o7) k3.st J (by decide) (by decide);refine⟨ar (.str (st G)),ar (.int (0+((3:Nat):Int))),R,Y,m5 ((uj rfl).trans (CU (by decide))) ?_,((k1.trans k2).trans k3).trans U,P.trans (T.trans (Z.trans N))⟩;show fc _ _ _ ((ey 4).map λi:Nat=>D.int (0+(i:Int))) _ _=_;rw[show ey 4=[0,1,2,3]from rfl,NI,NI,NI,NI,OW];exact(iu rfl e1).trans ((iu rfl e2).trans ((iu rfl Q).trans ((iu rfl K).trans (by rw[jj];rfl))))
end
def wx:List D:=[.non,.int 7,.tup [.str "0:"],.fz [.str "0:"],.bl c_,.emp,.tup [.int 0,.tup []]]
theorem Gs{ρ:aI}:aH (bb (aQ (mK .non) (aQ (mK (.int 7)) (aQ (mK (.tup [.str "0:"])) (aQ (aH (bb (ae (mK (.str "0:")) aq))) (aQ (mK (.bl c_)) (aQ (mK .emp) (aQ (mK (.tup [.int 0,.tup []])) aq)))))))) ρ=aw (.fz wx):=by have Z:aH (bb (ae (mK (.str "0:")) aq)) ρ=aw (.fz [.str "0:"]):=things (aR (x:=.str "0:") rfl (es:=aq) rfl) rfl (by show 1<=50;decide);exact things (us:=wx) (aR rfl (aR rfl (aR rfl (aR Z (aR rfl (aR rfl (aR rfl (es:=aq) rfl))))))) rfl (by show 7<=50;decide)
theorem Eh{d:D}(h:d∈wx):cf [d]=M.raise (.exc "NoText" []):=by refine A1 ?_;unfold wx at h;simp only[gg,e_,or_false]at h;rcases h with rfl|rfl|rfl|rfl|rfl|rfl|rfl<;>rfl
theorem JN{S:aB}{ns:List Int}{i:Nat}{o2 o3 o4 o5 o6 o7:Option D}:∃x2 x3 x4 x5 x6 x7 S1,jU [ar (.ro (ns.map D.int)),ar (.int i),o2,o3,o4,o5,o6,o7] S=ar (.ok (.nx [ar (.ro (ns.map D.int)),ar (.int i),x2,x3,x4,x5,x6,x7]),S1):=by
 obtain⟨_,_,N,xs,rfl,rfl,hs⟩:=FN (S:=S) (ns:=ns) (k:=i) (Q:=λd F=>∃xs,d= .lst S.length/\F=S++[xs]/\eN (S++[xs]) S.length) λxs h=>⟨xs,rfl,rfl,h⟩;generalize S++[xs]=T0 at N hs;generalize S.length=k at N hs;obtain⟨Y,X,J,e1,p,L,k1,G⟩:=Jr (g:=7) (by decide) hs;obtain⟨Z,W,P,e2,_,s,r,f2,k2,z⟩:=DD k1.st;have H:aH (bb (ae (aH (az eX (ae (mV 2) (ae (mK (.int 7)) aq)))) (ae (aH (az bS (ae (mV 2) aq))) aq))) [ar (.ro (ns.map D.int)),ar (.int i),ar (.lst k),o3,o4,o5,o6,o7] T0=ar (.ok (.fz [cJ Y X,cJ Z W]),P):=by
  refine qF (uq (S1:=P) (ys:=[cJ Y X,cJ Z W]) (cH (S1:=J) ?_ (cH (S1:=P) ?_ rfl)) ui) (k1.trans k2) (z.trans G) ?_
  ·show iH (az _ _ _) T0=_;rw[call2 (x:=.lst k) (y:=.int 7) rfl rfl];exact e1
  ·show iH (az _ _ _) J=_;rw[b7 (x:=.lst k) rfl];exact e2
  ·unfold cn cn cn;rw[qE,qE];rfl
 obtain⟨j,U,C,b,f,k3,l3⟩:=f7 (e1:=mV 2) (e2:=mK (.int 2)) (ρ:=[ar (.ro (ns.map D.int)),ar (.int i),ar (.lst k),o3,o4,o5,o6,o7]) (m:=2) k2.st rfl rfl (by decide) (by decide);obtain⟨n,E,K,w,v,T⟩:∃(n:Nat) (E:List (List Int)),n<=14/\WebOk n E/\E.length<=21/\cz (.fz [cJ Y X,cJ Z W]) (.int j)=aw (cJ n E):=by
  rcases (show j=0\/j=1 by omega)with rfl|rfl
  ·exact⟨Y,X,by omega,L,MP p L,rfl⟩
  ·exact⟨Z,W,s,r,f2,rfl⟩
 have s3:aP cz (aH (bb (ae (aH (az eX (ae (mV 2) (ae (mK (.int 7)) aq)))) (ae (aH (az bS (ae (mV 2) aq))) aq)))) (aH (az ay (ae (mV 2) (ae (mK (.int 2)) aq)))) [ar (.ro (ns.map D.int)),ar (.int i),ar (.lst k),o3,o4,o5,o6,o7] T0=ar (.ok (cJ n E),U):=(gi H C).trans (NX T U);obtain⟨x4,x5,x6,I,o,A,e⟩:=Eg (o0:=ar (.ro (ns.map D.int))) (o1:=ar (.int i)) (o3:=ar (cJ n E)) (o5:=o5) (o6:=o6) (o7:=o7) k3.st (MQ K w v);obtain⟨q,O,u,l,c,k5,a⟩:=f7 (e1:=mV 2) (e2:=mK (.int 7)) (ρ:=[ar (.ro (ns.map D.int)),ar (.int i),ar (.lst k),ar (cJ n E),x4,x5,x6,o7]) (m:=7) A.st rfl rfl (by decide) (by decide);obtain⟨d,hd,t⟩:=zo (ds:=wx) l (by show q<7;omega);have B:=Dx (js:=[7]) (ρ:=[ar (.ro (ns.map D.int)),ar (.int i),ar (.lst k),ar (cJ n E),x4,x5,x6,ar d]) (ds:=[d]) (m:=qw) (R:=bw) rfl (MY ((b7 rfl).trans (Eh hd))) wt;refine⟨ar (.lst k),ar (cJ n E),x4,x5,x6,ar d,O,?_⟩;unfold jU;refine(aL (ρ':=[ar (.ro (ns.map D.int)),ar (.int i),ar (.lst k),o3,o4,o5,o6,o7]) (S1:=T0) (bN (x:=.lst k) ?_)).trans ((aL (bN s3)).trans ((aL (NX (ji (DN K w)) U)).trans ((aL o).trans ((aL (bN ((gi (NX Gs I) u).trans (NX t O)))).trans ?_))))
 ·rw[call2 (x:=.ro (ns.map D.int)) (y:=.int i) rfl rfl];exact N
 ·exact NX (fE (bY B Dw Lk)) O
theorem wy{its:List D}{ns:List Int}:∀(ts:List Nat) (o1 o2 o3 o4 o5 o6 o7:Option D) (S:aB),∃x1 Y Z x4 x5 x6 x7 S1,fc ⟨its,.none⟩ (gN 1) jU (ts.map λi:Nat=>.int (0+(i:Int))) [ar (.ro (ns.map D.int)),o1,o2,o3,o4,o5,o6,o7] S=ar (.ok (.nx [ar (.ro (ns.map D.int)),x1,Y,Z,x4,x5,x6,x7]),S1)
 |[],o1,o2,o3,o4,o5,o6,o7,S=>⟨o1,o2,o3,o4,o5,o6,o7,S,by rw[OW,jj];rfl⟩
 |t::ts,o1,o2,o3,o4,o5,o6,o7,S=>by
  obtain⟨Y,Z,x4,x5,x6,x7,S1,h⟩:=JN (S:=S) (ns:=ns) (i:=t) (o2:=o2) (o3:=o3) (o4:=o4) (o5:=o5) (o6:=o6) (o7:=o7);obtain⟨O,P,R,W,X,Q,N,T,U⟩:=wy (its:=its) (ns:=ns) ts (ar (.int t)) Y Z x4 x5 x6 x7 S1;refine⟨O,P,R,W,X,Q,N,T,?_⟩;rw[NI,QQ];exact(iu rfl h).trans U
theorem Lz{S:aB}{ns:List Int}:runs (sL [.ro (ns.map D.int)]) S (λd _=>d= .bl c_):=by
 have hm:az minD (ae (cm fW (mV 0)) (ae (mK (.int 8)) aq)) [ar (.ro (ns.map D.int)),none,none,none,none,none,none,none]=aw (.int (if (8:Int)<(ns.map D.int).length then 8 else (ns.map D.int).length)):=(call2 (x:=.int (ns.map D.int).length) (y:=.int 8) rfl rfl).trans rfl;have Z:az maxD (ae (mK (.int 1)) (ae (az minD (ae (cm fW (mV 0)) (ae (mK (.int 8)) aq))) aq)) [ar (.ro (ns.map D.int)),none,none,none,none,none,none,none]=aw (.int (if (if (8:Int)<(ns.map D.int).length then (8:Int)else (ns.map D.int).length)>1 then (if (8:Int)<(ns.map D.int).length then 8 else (ns.map D.int).length)else 1)):=(call2 (x:=.int 1) rfl hm).trans rfl;generalize hn:(if (if (8:Int)<(ns.map D.int).length then (8:Int)else (ns.map D.int).length)>1 then (if (8:Int)<(ns.map D.int).length then (8:Int)else (ns.map D.int).length)else 1)=n at Z;have Y:n<=8:=by rw[<-hn];split<;>split<;>omega
 have W:1<=n:=by rw[<-hn];split<;>split<;>omega
 have X:=(uj Z).trans (CU (by omega));obtain⟨T,R,U,x4,x5,x6,x7,S1,hf⟩:=wy (its:=bc 0 n.toNat) (ns:=ns) (ey n.toNat) none none none none none none none S;refine⟨.bl c_,S1,fK (o:=.ret (.bl c_)) ?_ rfl,rfl⟩;unfold Dl;exact(aL (m5 X hf)).trans rfl
def top(i:Nat):Stmt:=PySem.Challenge.pw_tiewebs_k91_texts_that_write_none.main.body.getD i (.Pass ⟨0,0,0,0⟩)
structure Txt(K:dt)(mg:Str->Option aC):Prop where
 err:hZ K=c_
 dk:Fv K=c_
 b_ValueError:mg "ValueError"=none
 b_all:mg "all"=none
 b_bool:mg "bool"=none
 b_int:mg "int"=none
 b_isinstance:mg "isinstance"=none
 b_len:mg "len"=none
 b_list:mg "list"=none
 b_max:mg "max"=none
 b_min:mg "min"=none
 b_range:mg "range"=none
 b_set:mg "set"=none
 b_sorted:mg "sorted"=none
 b_str:mg "str"=none
 b_tuple:mg "tuple"=none
 b_zip:mg "zip"=none
 g_MOST_FIGURES:∃t,mg "MOST_FIGURES"=ar (.int 2 t)
 g_MOST_PLACES:∃t,mg "MOST_PLACES"=ar (.int 14 t)
 s_FIGURES:∃t,mg "FIGURES"=ar (.str "0123456789" t)
theorem nX{N P:List Str}{Z:Scope}(a:Z.kind= .function:=by exact rfl)(b:Z.isCoroutine=false:=by exact rfl)(c:Z.isGenerator=false:=by exact rfl)(d:N.Nodup:=by decide+kernel)(e:N.take P.length=P:=by exact rfl)(f:∀x∈P,Z.names.lookup x=ar .local\/Z.names.lookup x=ar .cell:=by decide+kernel)(g:∀y∈Z.names,y.2≠ .free:=by decide+kernel):FnScope N P Z:=⟨a,b,c,d,e,f,g⟩
theorem wz:FnScope ["thing"] ["thing"] (aA (top 17)):=nX
theorem ya:FnScope ["thing"] ["thing"] (aA (top 18)):=nX
theorem uM:FnScope ["things"] ["things"] (aA (top 21)):=nX
theorem qT:FnScope ["word"] ["word"] (aA (top 27)):=nX
theorem oh:FnScope ["_law_script","_law_k"] ["_law_script","_law_k"] (aA (top 32)):=nX
theorem gu:FnScope ["_law_state_here","_law_many","_law_found","_law_stirred"] ["_law_state_here","_law_many"] (aA (top 34)):=nX
theorem iG:FnScope ["_law_many","_law_found","_law_a"] ["_law_many"] (aA (top 35)):=nX
theorem rH:FnScope ["_law_thing"] ["_law_thing"] (aA (top 39)):=nX
theorem qU:FnScope ["_law_word"] ["_law_word"] (aA (top 43)):=nX
theorem wA:FnScope ["many","thing"] ["many","thing"] (aA (top 19)):=nX
theorem ik:FnScope ["word","low","sign","high"] ["word"] (aA (top 28)):=nX
theorem kD:FnScope ["_law_script","_law_k","_law_cell"] ["_law_script","_law_k"] (aA (top 33)):=nX
theorem fx:FnScope ["_law_state_here","_law_things","_law_left","_law_found"] ["_law_state_here","_law_things"] (aA (top 36)):=nX
theorem cb:FnScope ["_law_state_here","_law_many","_law_ties","_law_turn","_law_one","_law_other"] ["_law_state_here"] (aA (top 38)):=nX
theorem jV:FnScope ["_law_thing","_law_tie"] ["_law_thing"] (aA (top 40)):=nX
theorem bE:FnScope ["_law_state_here","_law_text","_law_at","_law_signs","_law_sign","_law_left","_law_right","_law_words","_law_one","_law_other","_law_word","_law_some","_law_rest"] ["_law_state_here","_law_text"] (aA (top 45)):=nX
theorem ny:FnScope ["many","thing","low","high"] ["many","thing"] (aA (top 20)):=nX
theorem cR:FnScope ["_law_state_here","_law_most","_law_many","_law_way","_law_ties","_law_row","_law_at","_law_odd"] ["_law_state_here","_law_most"] (aA (top 37)):=nX
theorem dn:FnScope ["_law_text","_law_words","_law_ties","_law_word","_law_ends","_law_found"] ["_law_text"] (aA (top 44)):=nX
theorem nz:FnScope ["thing","many","ties"] ["thing"] (aA (top 22)):=nX
theorem wB:FnScope ["thing"] ["thing"] (aA (top 23)):=nX
theorem jW:FnScope ["web","many","ties"] ["web"] (aA (top 29)):=nX
theorem f9:FnScope ["text","head","sign","tail","web"] ["text"] (aA (top 30)):=nX
theorem uN:FnScope ["_law_found","_law_due"] ["_law_found","_law_due"] (aA (top 41)):=nX
theorem bO:FnScope ["_law_call","_law_error","e","_law_marks","_law_found"] ["_law_call"] (aA (top 42)):=nX
theorem jm:FnScope ["_law_script","_law_k","_law_state_here","_law_web_here","_law_text","_law_turn","_law_due","_law_odd"] ["_law_script"] (aA (top 46)):=nX
section
variable {P:eb}{w:er}{K:dt}{mg:Str->Option aC}{base:fg}
theorem wC{f:b_}{Y:f'}(F:Fun K "is_whole" "is_whole" (top 17) f Y)(Z:mg "is_whole"=ar (.ref f))(T:Txt K mg):DefX P w K mg base 1 "is_whole" ["thing"] cT:=
 bU (m:=qm) F Z (F.binds λ_ _ _ _ _ _ us U=>match us,U with|[_],_=>rfl) wz rfl λX A outer s H E S=>
  aO (aV (jD (eI (Ts:="int") T.b_isinstance T.b_int (aa 0)) (kH (BE (eI (Ts:="bool") T.b_isinstance T.b_bool (aa 0))))))
theorem yb{f:b_}{Y:f'}(F:Fun K "is_pair" "is_pair" (top 18) f Y)(Z:mg "is_pair"=ar (.ref f))(T:Txt K mg):DefX P w K mg base 1 "is_pair" ["thing"] dG:=
 bU (m:=sJ) F Z (F.binds λ_ _ _ _ _ _ us S=>match us,S with|[_],_=>rfl) ya rfl λX A outer s H E U=>
  aO (aV (jD (eI (Ts:="tuple") T.b_isinstance T.b_tuple (aa 0)) (kH (yn (fJ U) (gE T.b_len (aa 0)) au))))
theorem uO{f:b_}{Y:f'}(F:Fun K "is_rising" "is_rising" (top 21) f Y)(Z:mg "is_rising"=ar (.ref f))(T:Txt K mg):DefX P w K mg base 1 "is_rising" ["things"] fZ:=
 bU (m:=nQ) F Z (F.binds λ_ _ _ _ _ _ us X=>match us,X with|[_],_=>rfl) uM rfl λU A outer s H E S=>
  aO (aV (tS rfl T.b_all (aF (fi (t:=gJ) (m:=gK) (mX (Nc:=["ahead","behind"]) (js:=[none,none]) (aA (top 21)) ["things"] (λ_=>rfl) rfl (by decide+kernel)) rfl (yO T.b_zip (aa 0) (aF (dU (aa 0) (bP au) bZ))) (λC ex s2 R=>⟨ja rfl (bI (aW 0 (show(["ahead","behind"]:List Str).Nodup by decide+kernel)) (bI (aW 1 (show(["ahead","behind"]:List Str).Nodup by decide+kernel)) gj)),gk,GG (IF S) (aa 0) (aa 1)⟩)))))
theorem qV{f:b_}{Y:f'}(F:Fun K "read_number" "read_number" (top 27) f Y)(Z:mg "read_number"=ar (.ref f))(T:Txt K mg):DefX P w K mg base 1 "read_number" ["word"] bK:=
 bU (m:=iy) F Z (F.binds λ_ _ _ _ _ _ us X=>match us,X with|[_],_=>rfl) qT rfl λU A outer s H E S=>
  av (cX (n0 (gz (c0 (pA nA nA (fj λ_ _ _ _=>.bl _) (fj λ_ _ _ _=>.bl _) au (ug T.b_len (aa 0)) (vC rfl T.g_MOST_FIGURES))) (i8 (c0 (cZ (tS rfl T.b_all (aF (fi (t:=dh) (m:=di) (mX (Nc:=["sign"]) (js:=[none]) (aA (top 27)) ["word"] (λ_=>rfl) rfl (by decide+kernel)) rfl (IU (aa 0)) (λC ex s2 R=>⟨aW 0 (show(["sign"]:List Str).Nodup by decide+kernel),gk,IW (aa 0) (FF rfl T.s_FIGURES)⟩))))))))) (aO (aV fh)) bR) (av (cX (n0 (xb (BP (ug T.b_len (aa 0)) au) (tK (r0 (fJ S) (mr (aa 0) au) bA)))) (aO (aV fh)) bR) (aO (aV (yT T.b_int (aa 0)))))
theorem oj{f:b_}{Y:f'}(F:Fun K "_law_cell_at" "_law_cell_at" (top 32) f Y)(Z:mg "_law_cell_at"=ar (.ref f))(T:Txt K mg):DefX P w K mg base 1 "_law_cell_at" ["_law_script","_law_k"] dZ:=
 bU (m:=jQ) F Z (F.binds λ_ _ _ _ _ _ us S=>match us,S with|[_,_],_=>rfl) oh rfl λX A outer s H E U=>
  av (cX (GH (IF U) (aa 1) (gE T.b_len (aa 0))) (aO (aV (aU (aa 0) (aa 1)))) bR) (aO (aV au))
theorem uP{f:b_}{Y:f'}(F:Fun K "_law_take" "_law_take" (top 34) f Y)(Z:mg "_law_take"=ar (.ref f))(T:Txt K mg):DefX P w K mg base 1 "_law_take" ["_law_state_here","_law_many"] ay:=
 bU (m:=nR) F Z (F.binds λ_ _ _ _ _ _ us U=>match us,U with|[_,_],_=>rfl) gu rfl λX A outer s H E S=>
  av (cX (cZ (aU (aa 0) au)) (av (aZ 2 gu.nd (jH (aU (aa 0) au) (aa 1)) (hs:=dW)) (av (kJ (tN (aU (aa 0) au) (aa 1)) (yt (aa 0) au)) (aO (aV (aa 2))))) bR) (av (kJ (jH (cw (pq (aU (aa 0) au) au) au) au) (yt (aa 0) au)) (av (aZ 3 gu.nd (jH (cw (cw (pq (aU (aa 0) au) (aU (aa 0) au)) (pq au (aU (aa 0) au))) au) au) (hs:=dW)) (av (aZ 3 gu.nd (jH (cw (pq (aa 3) (aa 3)) (pq au (aa 3))) au) (hs:=dW)) (aO (aV (jH (tN (aa 3) au) (aa 1)))))))
theorem rJ{f:b_}{Y:f'}(F:Fun K "_law_pairs" "_law_pairs" (top 35) f Y)(Z:mg "_law_pairs"=ar (.ref f))(T:Txt K mg):DefX P w K mg base 1 "_law_pairs" ["_law_many"] bq:=
 bU (m:=my) F Z (F.binds λ_ _ _ _ _ _ us X=>match us,X with|[_],_=>rfl) iG rfl λU A outer s H E R=>
  av (aZ 1 iG.nd (bG ao) (hs:=jc)) (av (kK (b:=gf) O0 rfl (iQ T.b_range (aa 0)) (aW 2 iG.nd) (aO (gY (Am (aa 1) (aF (fi (t:=eR) (m:=eS) (mX (Nc:=["_law_b","_law_a"]) (js:=[none,ar 2]) (aA (top 35)) ["_law_many","_law_found","_law_a"] (λ_=>rfl) rfl (by decide+kernel)) rfl (sd T.b_range (cw (aa 2) au) (aa 0)) (λC ex s2 S=>⟨aW 0 (show(["_law_b","_law_a"]:List Str).Nodup by decide+kernel),gk,i9 (af (aa 1) (af (aa 0) ao aE) aE)⟩))))))) (aO (aV (aa 1))))
theorem rK{f:b_}{Y:f'}(F:Fun K "_law_whole" "_law_whole" (top 39) f Y)(Z:mg "_law_whole"=ar (.ref f))(T:Txt K mg):DefX P w K mg base 1 "_law_whole" ["_law_thing"] dE:=
 bU (m:=mz) F Z (F.binds λ_ _ _ _ _ _ us U=>match us,U with|[_],_=>rfl) rH rfl λX A outer s H E S=>
  aO (aV (jD (eI (Ts:="int") T.b_isinstance T.b_int (aa 0)) (kH (BE (eI (Ts:="bool") T.b_isinstance T.b_bool (aa 0))))))
theorem qX{f:b_}{X:f'}(F:Fun K "_law_number" "_law_number" (top 43) f X)(Y:mg "_law_number"=ar (.ref f))(T:Txt K mg):DefX P w K mg base 1 "_law_number" ["_law_word"] bC:=
 bU (m:=iz) F Y (F.binds λ_ _ _ _ _ _ us S=>match us,S with|[_],_=>rfl) qU rfl λU A outer s H E Z=>
  av (cX (n0 (gz (r0 (fJ Z) (aa 0) bA) (gz (gZ (fJ Z) (Dg (aa 0) bA) bA) (i8 (n0 (xb (r0 (fJ Z) (mr (aa 0) au) bA) (tK (gZ (fJ Z) (aa 0) bA)))))))) (aO (aV fh)) bR) (aO (aV (yT T.b_int (aa 0))))
theorem wD{f:b_}{U:f'}(F:Fun K "is_place" "is_place" (top 19) f U)(X:mg "is_place"=ar (.ref f))(T:Txt K mg)(Z:DefX P w K mg base 1 "is_whole" ["thing"] cT):DefX P w K mg base 2 "is_place" ["many","thing"] gL:=
 bU (m:=qo) F X (F.binds λ_ _ _ _ _ _ us R=>match us,R with|[_,_],_=>rfl) wA rfl λS A outer s H E Y=>
  aO (aV (jD (aJ Z (Y.mono (by decide)) (af (aa 1) ao aE)) (kH (BQ nA (uX.or (oZ (IF Y))) (fj λ_ _ _ _=>.bl _) pv au (aa 1) (aa 0)))))
theorem wF{f:b_}{U:f'}(F:Fun K "read_tie" "read_tie" (top 28) f U)(X:mg "read_tie"=ar (.ref f))(T:Txt K mg)(Z:DefX P w K mg base 1 "read_number" ["word"] bK):DefX P w K mg base 2 "read_tie" ["word"] d4:=
 bU (m:=jk) F X (F.binds λ_ _ _ _ _ _ us R=>match us,R with|[_],_=>rfl) ik rfl λS A outer s H E Y=>
  av (kJ (yU (aa 0) bA) (ja rfl (bI (aW 1 ik.nd) (bI (aW 2 ik.nd) (bI (aW 3 ik.nd) gj))))) (aO (aV (i9 (af (aF (aJ Z (Y.mono (by decide)) (af (aa 1) ao aE))) (af (aF (aJ Z (Y.mono (by decide)) (af (aa 3) ao aE))) ao aX) aX))))
theorem rL{f:b_}{X:f'}(F:Fun K "_law_state" "_law_state" (top 33) f X)(Y:mg "_law_state"=ar (.ref f))(T:Txt K mg)(Z:DefX P w K mg base 1 "_law_cell_at" ["_law_script","_law_k"] dZ):DefX P w K mg base 2 "_law_state" ["_law_script","_law_k"] gr:=
 bU (m:=mB) F Y (F.binds λ_ _ _ _ _ _ us R=>match us,R with|[_,_],_=>rfl) kD rfl λU A outer s H E S=>
  av (aZ 2 kD.nd (aJ Z (S.mono (by decide)) (af (aa 0) (af (aa 1) ao aE) aE)) (hs:=eh)) (av (cX (Kx (aa 2) (BN au au)) (aO (aV (bG (af (kM (aa 2) (BN au au)) (af fA ao aD) cC)))) bR) (aO (aV (bG (af (jH (aa 2) au) (af fA ao aD) cC)))))
theorem mF{f:b_}{U:f'}(F:Fun K "_law_mixed_row" "_law_mixed_row" (top 36) f U)(X:mg "_law_mixed_row"=ar (.ref f))(T:Txt K mg)(Z:DefX P w K mg base 1 "_law_take" ["_law_state_here","_law_many"] ay):DefX P w K mg base 2 "_law_mixed_row" ["_law_state_here","_law_things"] dj:=
 bU (m:=ez) F X (F.binds λ_ _ _ _ _ _ us R=>match us,R with|[_,_],_=>rfl) fx rfl λS A outer s H E Y=>
  av (aZ 2 fx.nd (yq T.b_list (aa 1)) (hs:=eh)) (av (aZ 3 fx.nd (bG ao) (hs:=jc)) (av (BH (b:=cu) 64 O0 (gZ (fJ Y) (aa 2) (aF (bG ao))) (aO (gY (gy (aa 3) (B1 (aa 2) (aF (aJ Z (Y.mono (by decide)) (af (aa 0) (af (gE T.b_len (aa 2)) ao aX) aE)))))))) (aO (aV (aa 3)))))
theorem mG{f:b_}{U:f'}(F:Fun K "_law_great_web" "_law_great_web" (top 38) f U)(X:mg "_law_great_web"=ar (.ref f))(T:Txt K mg)(Z:DefX P w K mg base 1 "_law_take" ["_law_state_here","_law_many"] ay):DefX P w K mg base 2 "_law_great_web" ["_law_state_here"] bS:=
 bU (m:=eA) F X (F.binds λ_ _ _ _ _ _ us R=>match us,R with|[_],_=>rfl) cb rfl λS A outer s H E Y=>
  av (aZ 1 cb.nd (cw au (aF (aJ Z (Y.mono (by decide)) (af (aa 0) (af au ao aD) aE)))) (hs:=dW)) (av (aZ 2 cb.nd (bG ao) (hs:=jc)) (av (kK (b:=eJ) O0 rfl (iQ T.b_range (aF (aJ Z (Y.mono (by decide)) (af (aa 0) (af au ao aD) aE)))) (aW 3 cb.nd) (av (aZ 4 cb.nd (aF (aJ Z (Y.mono (by decide)) (af (aa 0) (af (aa 1) ao aE) aE))) (hs:=eh)) (av (aZ 5 cb.nd (jH (cw (cw (aa 4) au) (aF (aJ Z (Y.mono (by decide)) (af (aa 0) (af (kM (aa 1) au) ao cC) aE)))) (aa 1)) (hs:=dW)) (aO (gY (gy (aa 2) (i9 (af (BU rfl T.b_min (af (aa 4) (af (aa 5) ao aE) aE)) (af (xg rfl T.b_max (af (aa 4) (af (aa 5) ao aE) aE)) ao aX) aX)))))))) (aO (aV (i9 (af (aa 1) (af (iN T.b_tuple (aF (l9 rfl (MX Y) T.b_sorted T.b_set (aa 2)))) ao aX) aE))))))
theorem qY{f:b_}{U:f'}(F:Fun K "_law_is_web" "_law_is_web" (top 40) f U)(X:mg "_law_is_web"=ar (.ref f))(T:Txt K mg)(Z:DefX P w K mg base 1 "_law_whole" ["_law_thing"] dE):DefX P w K mg base 2 "_law_is_web" ["_law_thing"] dH:=
 bU (m:=fP) F X (F.binds λ_ _ _ _ _ _ us R=>match us,R with|[_],_=>rfl) jV rfl λS A outer s H E Y=>
  av (cX (n0 (gz (c0 (cZ (eI (Ts:="tuple") T.b_isinstance T.b_tuple (aa 0)))) (gz (gZ (fJ Y) (gE T.b_len (aa 0)) au) (gz (c0 (cZ (aF (aJ Z (Y.mono (by decide)) (af (aU (aa 0) au) ao bf))))) (i8 (c0 (pA nA nA (fj λ_ _ _ _=>.bl _) (fj λ_ _ _ _=>.bl _) au (aU (aa 0) au) au))))))) (aO (aV fA)) bR) (av (cX (c0 (cZ (eI (Ts:="tuple") T.b_isinstance T.b_tuple (aU (aa 0) au)))) (aO (aV fA)) bR) (av (kK (b:=cB) O0 rfl (iq (aU (aa 0) au)) (aW 1 jV.nd) (av (cX (n0 (gz (c0 (cZ (eI (Ts:="tuple") T.b_isinstance T.b_tuple (aa 1)))) (gz (gZ (fJ Y) (gE T.b_len (aa 1)) au) (gz (c0 (cZ (aF (aJ Z (Y.mono (by decide)) (af (aU (aa 1) au) ao bf))))) (i8 (c0 (cZ (aF (aJ Z (Y.mono (by decide)) (af (aU (aa 1) au) ao bf)))))))))) (aO (aV fA)) bR) (aO (cX (c0 (Ap nA (uX.or (oZ (IF Y))) (uX.or (oZ (IF Y))) (fj λ_ _ _ _=>.bl _) pv pv au (aU (aa 1) au) (aU (aa 1) au) (aU (aa 0) au))) (aO (aV fA)) bR)))) (aO (aV (yn (fJ Y) (aF (yq T.b_list (aU (aa 0) au))) (aF (l9 rfl (MX Y) T.b_sorted T.b_set (aU (aa 0) au))))))))
theorem uQ{f:b_}{U:f'}(F:Fun K "_law_bent" "_law_bent" (top 45) f U)(X:mg "_law_bent"=ar (.ref f))(T:Txt K mg)(Z:DefX P w K mg base 1 "_law_take" ["_law_state_here","_law_many"] ay):DefX P w K mg base 2 "_law_bent" ["_law_state_here","_law_text"] fb:=
 bU (m:=ic) F X (F.binds λ_ _ _ _ _ _ us R=>match us,R with|[_,_],_=>rfl) bE rfl λS A outer s H E Y=>
  av (aZ 2 bE.nd (aF (aJ Z (Y.mono (by decide)) (af (aa 0) (af (cw (ug T.b_len (aa 1)) au) ao cC) aE))) (hs:=eh)) (av (aZ 3 bE.nd bA (hs:=nL)) (av (aZ 4 bE.nd (aU (aF (bG (af (mr (aa 3) (aF (aJ Z (Y.mono (by decide)) (af (aa 0) (af au ao aD) aE)))) (af (mr bA (aF (aJ Z (Y.mono (by decide)) (af (aa 0) (af au ao aD) aE)))) ao bf) bf))) (aF (aJ Z (Y.mono (by decide)) (af (aa 0) (af au ao aD) aE)))) (hs:=gp)) (av (BG 5 6 rfl bE.nd (af (dF (aa 1) bZ (bP (aa 2))) (af (dF (aa 1) (bP (aa 2)) bZ) ao bf) bf)) (av (aZ 7 bE.nd (aF (mw (aa 1) bA)) (hs:=eh)) (av (BG 8 9 rfl bE.nd (af (aF (aJ Z (Y.mono (by decide)) (af (aa 0) (af (gE T.b_len (aa 7)) ao aX) aE))) (af (aF (aJ Z (Y.mono (by decide)) (af (aa 0) (af (gE T.b_len (aa 7)) ao aX) aE))) ao aX) aX)) (av (aZ 10 bE.nd (aU (aa 7) (aa 8)) (hs:=gp)) (av (aZ 11 bE.nd (aF (bG (by (refine @ba _ _ _ _ _ _ (dR (aa 5) (dF (aa 6) (bP au) bZ)) ?_ cC;refine @ba _ _ _ _ _ _ (dR (dR (aa 5) (aa 4)) (aa 6)) ?_ cC;refine @ba _ _ _ _ _ _ (dR (dR (aa 5) (aa 4)) (dF (aa 6) (bP au) bZ)) ?_ cC;refine @ba _ _ _ _ _ _ (dR (dR (dR (aa 5) (dF (aa 6) (bP au) (bP au))) (dF (aa 6) bZ (bP au))) (dF (aa 6) (bP au) bZ)) ?_ cC;exact ao)))) (hs:=jc)) (av (aZ 11 bE.nd (aF (cw (aa 11) (aF (bG (af (jO bA (aF (cw (aF (dU (aa 7) bZ (bP (aa 8)))) (aF (dU (aa 7) (bP (cw (aa 8) au)) bZ))))) (af (jO bA (aF (cw (aF (cw (aF (dU (aa 7) bZ (bP (aa 8)))) (aF (bG (af (aa 10) ao aE))))) (aF (dU (aa 7) (bP (aa 8)) bZ))))) ao aX) aX))))) (hs:=dW)) (av (aZ 12 bE.nd (aF (cw (aF (dU (aa 7) bZ (bP (aa 8)))) (aF (dU (aa 7) (bP (cw (aa 8) au)) bZ)))) (hs:=dW)) (av (aZ 11 bE.nd (aF (cw (aa 11) (aF (bG (by (refine @ba _ _ _ _ _ _ (jO bA (aF (cw (aF (cw (aF (dU (aa 12) bZ (bP (aa 9)))) (aF (bG (af (aa 10) ao aE))))) (aF (dU (aa 12) (bP (aa 9)) bZ))))) ?_ aX;refine @ba _ _ _ _ _ _ (aa 1) ?_ aE;refine @ba _ _ _ _ _ _ (dR bA (aa 1)) ?_ cC;refine @ba _ _ _ _ _ _ (dR (aa 1) bA) ?_ cC;exact ao)))))) (hs:=dW)) (aO (aV (aU (aa 11) (aF (aJ Z (Y.mono (by decide)) (af (aa 0) (af au ao aD) aE))))))))))))))))
theorem A6{f:b_}{S:f'}(F:Fun K "is_tie" "is_tie" (top 20) f S)(U:mg "is_tie"=ar (.ref f))(T:Txt K mg)(Y:DefX P w K mg base 1 "is_pair" ["thing"] dG)(Z:DefX P w K mg base 2 "is_place" ["many","thing"] gL):DefX P w K mg base 3 "is_tie" ["many","thing"] mC:=
 bU (m:=qp) F U (F.binds λ_ _ _ _ _ _ us Q=>match us,Q with|[_,_],_=>rfl) ny rfl λR A outer s H E X=>
  av (cX (c0 (cZ (aJ Y (X.mono (by decide)) (af (aa 1) ao aE)))) (aO (aV fA)) bR) (av (kJ (aa 1) (ja rfl (bI (aW 2 ny.nd) (bI (aW 3 ny.nd) gj)))) (aO (aV (jD (aJ Z (X.mono (by decide)) (af (aa 0) (af (aa 2) ao aE) aE)) (jD (aJ Z (X.mono (by decide)) (af (aa 0) (af (aa 3) ao aE) aE)) (kH (GG (IF X) (aa 2) (aa 3))))))))
theorem wG{f:b_}{Q:f'}(F:Fun K "_law_web" "_law_web" (top 37) f Q)(R:mg "_law_web"=ar (.ref f))(T:Txt K mg)(Z:DefX P w K mg base 1 "_law_take" ["_law_state_here","_law_many"] ay)(Y:DefX P w K mg base 1 "_law_pairs" ["_law_many"] bq)(X:DefX P w K mg base 2 "_law_mixed_row" ["_law_state_here","_law_things"] dj):DefX P w K mg base 3 "_law_web" ["_law_state_here","_law_most"] eX:=
 bU (m:=jl) F R (F.binds λ_ _ _ _ _ _ us O=>match us,O with|[_,_],_=>rfl) cR rfl λN A outer s H E U=>
  av (aZ 2 cR.nd (xg rfl T.b_max (af au (af (kM (aa 1) (aU (aF (bG (by (refine @ba _ _ _ _ _ _ au ?_ aD;refine @ba _ _ _ _ _ _ au ?_ aD;refine @ba _ _ _ _ _ _ au ?_ aD;refine @ba _ _ _ _ _ _ au ?_ aD;refine @ba _ _ _ _ _ _ au ?_ aD;refine @ba _ _ _ _ _ _ au ?_ aD;refine @ba _ _ _ _ _ _ au ?_ aD;refine @ba _ _ _ _ _ _ (aa 1) ?_ aE;exact ao)))) (aF (aJ Z (U.mono (by decide)) (af (aa 0) (af au ao aD) aE))))) ao cC) aD)) (hs:=eh)) (av (aZ 3 cR.nd (aF (aJ Z (U.mono (by decide)) (af (aa 0) (af au ao aD) aE))) (hs:=eh)) (av (aZ 4 cR.nd (fi (t:=iA) (m:=iB) (mX (Nc:=["_law_tie","_law_state_here","_law_way"]) (js:=[none,ar 0,ar 3]) (aA (top 37)) ["_law_state_here","_law_most","_law_many","_law_way","_law_ties","_law_row","_law_at","_law_odd"] (λ_=>rfl) rfl (by decide+kernel)) rfl (iq (aF (aJ Y (U.mono (by decide)) (af (aa 2) ao aE)))) (λC ex s2 S=>⟨aW 0 (show(["_law_tie","_law_state_here","_law_way"]:List Str).Nodup by decide+kernel),oy (GH (IF U) (aF (aJ Z (U.mono (by decide)) (af (aa 1) (af au ao aD) aE))) (aU (aF (bG (af au (af au (af au ao aD) aD) aD))) (jH (aa 2) au))),aa 0⟩))) (av (aZ 5 cR.nd (aF (aJ X (U.mono (by decide)) (af (aa 0) (af (aF (tU rfl T.b_list T.b_range (aa 2))) ao aX) aE))) (hs:=eh)) (av (cX (BP (aa 3) au) (av (aZ 4 cR.nd (bG ao) (hs:=jc)) (av (kK (b:=fQ) O0 rfl (sd T.b_range au (aa 2)) (aW 6 cR.nd) (aO (gY (gy (aa 4) (iN T.b_tuple (aF (mU T.b_sorted (aF (bG (af (aU (aa 5) (aa 6)) (af (aU (aa 5) (aU (aF (bG (by (refine @ba _ _ _ _ _ _ (kM (aa 6) au) ?_ cC;refine @ba _ _ _ _ _ _ (kM (aa 6) au) ?_ cC;refine @ba _ _ _ _ _ _ au ?_ aD;refine @ba _ _ _ _ _ _ (tN (aa 6) au) ?_ cC;exact ao)))) (kM (aa 3) au))) ao bf) bf)))))))))) (av (cX (n0 (xb (r0 (fJ U) (aa 3) au) (tK (BP (aa 2) au)))) (aO (gY (gy (aa 4) (iN T.b_tuple (aF (mU T.b_sorted (aF (bG (af (aU (aa 5) au) (af (aU (aa 5) (kM (aa 2) au)) ao bf) bf))))))))) bR) (av (aZ 7 cR.nd (aF (fi (t:=eL) (m:=eM) (mX (Nc:=["_law_tie","_law_state_here"]) (js:=[none,ar 0]) (aA (top 37)) ["_law_state_here","_law_most","_law_many","_law_way","_law_ties","_law_row","_law_at","_law_odd"] (λ_=>rfl) rfl (by decide+kernel)) rfl (iq (aF (aJ Y (U.mono (by decide)) (af (aa 2) ao aE)))) (λC ex s2 S=>⟨aW 0 (show(["_law_tie","_law_state_here"]:List Str).Nodup by decide+kernel),oy (r0 (fJ U) (aF (aJ Z (U.mono (by decide)) (af (aa 1) (af au ao aD) aE))) au),aa 0⟩)))) (aO (aZ 4 cR.nd (fi (t:=fR) (m:=fS) (mX (Nc:=["_law_tie","_law_ties","_law_odd"]) (js:=[none,ar 4,ar 7]) (aA (top 37)) ["_law_state_here","_law_most","_law_many","_law_way","_law_ties","_law_row","_law_at","_law_odd"] (λ_=>rfl) rfl (by decide+kernel)) rfl (iq (aF (aJ Y (U.mono (by decide)) (af (aa 2) ao aE)))) (λC ex s2 S=>⟨aW 0 (show(["_law_tie","_law_ties","_law_odd"]:List Str).Nodup by decide+kernel),oy (gZ (fJ U) (GI (fJ U) (aa 0) (aa 1)) (GI (fJ U) (aa 0) (aa 2))),aa 0⟩)))))))) bR) (aO (aV (i9 (af (aa 2) (af (iN T.b_tuple (aF (mU T.b_sorted (aa 4)))) ao aX) aE))))))))
theorem qZ{f:b_}{S:f'}(F:Fun K "_law_web_in" "_law_web_in" (top 44) f S)(U:mg "_law_web_in"=ar (.ref f))(T:Txt K mg)(Y:DefX P w K mg base 2 "_law_is_web" ["_law_thing"] dH)(Z:DefX P w K mg base 1 "_law_number" ["_law_word"] bC):DefX P w K mg base 3 "_law_web_in" ["_law_text"] cV:=
 bU (m:=cU) F U (F.binds λ_ _ _ _ _ _ us R=>match us,R with|[_],_=>rfl) dn rfl λQ A outer s H E X=>
  av (aZ 1 dn.nd (aF (mw (aa 0) bA)) (hs:=eh)) (av (cX (n0 (gz (gZ (fJ X) (dF (aU (aa 1) au) (bP pX) bZ) bA) (i8 (GJ (aF (aJ Z (X.mono (by decide)) (af (dF (aU (aa 1) au) bZ (bP pX)) ao bf))) fh)))) (aO (aV fh)) bR) (av (aZ 2 dn.nd (bG ao) (hs:=jc)) (av (kK (b:=bT) O0 rfl (iq (aF (dU (aa 1) (bP au) bZ))) (aW 3 dn.nd) (av (vS (pk 4 (t:=eB) (m:=eE) dn.nd (mX (Nc:=["_law_part"]) (js:=[none]) (aA (top 44)) ["_law_text","_law_words","_law_ties","_law_word","_law_ends","_law_found"] (λ_=>rfl) rfl (by decide+kernel)) rfl (iq (aF (mw (aa 3) bA))) (λC ex s2 O=>⟨aW 0 (show(["_law_part"]:List Str).Nodup by decide+kernel),gk,aF (aJ Z (X.mono (by decide)) (af (aa 0) ao aE))⟩))) (av (cX (n0 (gz (gZ (fJ X) (gE T.b_len (aa 4)) au) (i8 (KB (fJ X) fh (aa 4))))) (aO (aV fh)) bR) (aO (gY (gy (aa 2) (i9 (af (aU (aa 4) au) (af (aU (aa 4) au) ao bf) bf)))))))) (av (aZ 5 dn.nd (i9 (af (aF (aJ Z (X.mono (by decide)) (af (dF (aU (aa 1) au) bZ (bP pX)) ao bf))) (af (iN T.b_tuple (aa 2)) ao aX) aX)) (hs:=vO)) (aO (aV (GF (cZ (aF (aJ Y (X.mono (by decide)) (af (aa 5) ao aE)))) (aa 5) fh)))))))
theorem A7{f:b_}{Q:f'}(F:Fun K "is_web" "is_web" (top 22) f Q)(R:mg "is_web"=ar (.ref f))(T:Txt K mg)(Y:DefX P w K mg base 1 "is_whole" ["thing"] cT)(X:DefX P w K mg base 1 "is_pair" ["thing"] dG)(U:DefX P w K mg base 3 "is_tie" ["many","thing"] mC)(Z:DefX P w K mg base 1 "is_rising" ["things"] fZ):DefX P w K mg base 4 "is_web" ["thing"] d5:=
 bU (m:=qt) F R (F.binds λ_ _ _ _ _ _ us O=>match us,O with|[_],_=>rfl) nz rfl λN A outer s H E S=>
  av (cX (c0 (cZ (aF (aJ X (S.mono (by decide)) (af (aa 0) ao aE))))) (aO (aV fA)) bR) (av (kJ (aa 0) (ja rfl (bI (aW 1 nz.nd) (bI (aW 2 nz.nd) gj)))) (av (cX (n0 (gz (c0 (cZ (aF (aJ Y (S.mono (by decide)) (af (aa 1) ao aE))))) (gz (c0 (pA nA nA (fj λ_ _ _ _=>.bl _) (fj λ_ _ _ _=>.bl _) au (aa 1) (vC rfl T.g_MOST_PLACES))) (i8 (c0 (cZ (eI (Ts:="tuple") T.b_isinstance T.b_tuple (aa 2)))))))) (aO (aV fA)) bR) (aO (aV (jD (tS rfl T.b_all (aF (fi (t:=ie) (m:=ig) (mX (Nc:=["tie","many"]) (js:=[none,ar 1]) (aA (top 22)) ["thing","many","ties"] (λ_=>rfl) rfl (by decide+kernel)) rfl (iq (aa 2)) (λC ex s2 L=>⟨aW 0 (show(["tie","many"]:List Str).Nodup by decide+kernel),gk,aF (aJ U (S.mono (by decide)) (af (aa 1) (af (aa 0) ao aE) aE))⟩)))) (kH (aF (aJ Z (S.mono (by decide)) (af (aa 2) ao aE)))))))))
theorem wH{f:b_}{X:f'}(F:Fun K "need_web" "need_web" (top 23) f X)(Y:mg "need_web"=ar (.ref f))(T:Txt K mg)(Z:DefX P w K mg base 4 "is_web" ["thing"] d5):DefX P w K mg base 5 "need_web" ["thing"] gM:=
 ue (m:=qu) F Y (F.binds λ_ _ _ _ _ _ us R=>match us,R with|[_],_=>rfl) wB rfl λU A outer s H E S=>
  aO (cX (c0 (cZ (aF (gH Z (S.mono (by decide)) dy.pass (af (aa 0) ao aE))))) (aO (p7 dy rfl T.err (by decide) (by decide) (af bA ao aD))) bR)
theorem wI{f:b_}{X:f'}(F:Fun K "web_text" "web_text" (top 29) f X)(Y:mg "web_text"=ar (.ref f))(T:Txt K mg)(Z:DefX P w K mg base 5 "need_web" ["thing"] gM):DefX P w K mg base 6 "web_text" ["web"] eY:=
 ue (m:=kX) F Y (F.binds λ_ _ _ _ _ _ us U=>match us,U with|[_],_=>rfl) jW rfl λS A outer s H E R=>
  av (gY (aF (gH Z (R.mono (by decide)) dy.pass (af (aa 0) ao aE)))) (av (kJ (aa 0) (ja rfl (bI (aW 1 jW.nd) (bI (aW 2 jW.nd) gj)))) (aO (aV (dR (sA (kf (xJ (aa 1)) (kf bA CN))) (jO bA (aF (yK (fi (t:=fT) (m:=fU) (mX (Nc:=["low","high"]) (js:=[none,none]) (aA (top 29)) ["web","many","ties"] (λ_=>rfl) rfl (by decide+kernel)) rfl (iq (aa 2)) (λC ex s2 Q=>⟨ja rfl (bI (aW 0 (show(["low","high"]:List Str).Nodup by decide+kernel)) (bI (aW 1 (show(["low","high"]:List Str).Nodup by decide+kernel)) gj)),gk,sA (kf bA (kf (xJ (aa 0)) (kf bA (kf (xJ (aa 1)) CN))))⟩)))))))))
theorem wJ{f:b_}{Q:f'}(F:Fun K "read_web" "read_web" (top 30) f Q)(R:mg "read_web"=ar (.ref f))(T:Txt K mg)(U:DefX P w K mg base 4 "is_web" ["thing"] d5)(Z:DefX P w K mg base 1 "read_number" ["word"] bK)(X:DefX P w K mg base 2 "read_tie" ["word"] d4)(Y:DefX P w K mg base 6 "web_text" ["web"] eY):DefX P w K mg base 7 "read_web" ["text"] cf:=
 ue (m:=gO) F R (F.binds λ_ _ _ _ _ _ us O=>match us,O with|[_],_=>rfl) f9 rfl λN A outer s H E S=>
  av (cX (c0 (cZ (eI (Ts:="str") T.b_isinstance T.b_str (aa 0)))) (aO (p7 dy rfl T.err (by decide) (by decide) (af bA ao aD))) bR) (av (kJ (yU (aa 0) bA) (ja rfl (bI (aW 1 f9.nd) (bI (aW 2 f9.nd) (bI (aW 3 f9.nd) gj))))) (av (aZ 4 f9.nd (i9 (af (aF (gH Z (S.mono (by decide)) dy.pass (af (aa 1) ao aE))) (af (iN T.b_tuple (aF (yK (fi (t:=dI) (m:=dJ) (mX (Nc:=["word"]) (js:=[none]) (aA (top 30)) ["text","head","sign","tail","web"] (λ_=>rfl) rfl (by decide+kernel)) rfl (iq (aF (dU (aF (mw (aa 3) bA)) (bP au) bZ))) (λC ex s2 L=>⟨aW 0 (show(["word"]:List Str).Nodup by decide+kernel),gk,aF (aJ X (S.mono (by decide)) (af (aa 0) ao aE))⟩))))) ao aX) aX)) (hs:=vO)) (av (cX (n0 (gz (c0 (cZ (aF (gH U (S.mono (by decide)) dy.pass (af (aa 4) ao aE))))) (i8 (gZ (fJ S) (aF (gH Y (S.mono (by decide)) dy.pass (af (aa 4) ao aE))) (aa 0))))) (aO (p7 dy rfl T.err (by decide) (by decide) (af bA ao aD))) bR) (aO (aV (aa 4))))))
theorem rM{j:Nat}{X:List D->M D}{f:b_}{S:f'}(F:Fun K "_law_same" "_law_same" (top 41) f S)(U:mg "_law_same"=ar (.ref f))(T:Txt K mg)(Z:DefX P w K mg base (1+j) "_law_same" ["_law_found","_law_due"] X):DefX P w K mg base (1+j+1) "_law_same" ["_law_found","_law_due"] (mn 2 2 (d6 X)):=
 bU (m:=d6 X) F U (F.binds λ_ _ _ _ _ _ us R=>match us,R with|[_,_],_=>rfl) uN rfl λQ A outer s H E Y=>
  av (cX (cZ (E5 (Ts:="tuple") (Us:="list") T.b_isinstance T.b_tuple T.b_list (aa 1))) (av (cX (n0 (gz (gZ (fJ Y) (eI (Ts:="tuple") T.b_isinstance T.b_tuple (aa 0)) (eI (Ts:="tuple") T.b_isinstance T.b_tuple (aa 1))) (i8 (gZ (fJ Y) (eI (Ts:="list") T.b_isinstance T.b_list (aa 0)) (eI (Ts:="list") T.b_isinstance T.b_list (aa 1)))))) (aO (aV fA)) bR) (av (cX (gZ (fJ Y) (gE T.b_len (aa 0)) (gE T.b_len (aa 1))) (aO (aV fA)) bR) (aO (aV (tS rfl T.b_all (aF (fi (t:=gQ X) (m:=gR X) (mX (Nc:=["_law_one","_law_other"]) (js:=[none,none]) (aA (top 41)) ["_law_found","_law_due"] (λ_=>rfl) rfl (by decide+kernel)) rfl (yO T.b_zip (aa 0) (aa 1)) (λC ex s2 O=>⟨ja rfl (bI (aW 0 (show(["_law_one","_law_other"]:List Str).Nodup by decide+kernel)) (bI (aW 1 (show(["_law_one","_law_other"]:List Str).Nodup by decide+kernel)) gj)),gk,aF (aJ Z (Y.mono (Nu _)) (af (aa 0) (af (aa 1) ao aE) aE))⟩)))))))) bR) (aO (aV (jD (yn (fJ Y) (aa 0) (aa 1)) (kH (yn (fJ Y) (eI (Ts:="bool") T.b_isinstance T.b_bool (aa 0)) (eI (Ts:="bool") T.b_isinstance T.b_bool (aa 1)))))))
theorem kE{f:b_}{X:f'}(F:Fun K "_law_same" "_law_same" (top 41) f X)(Z:mg "_law_same"=ar (.ref f))(T:Txt K mg):∀n,DefX P w K mg base (1+n) "_law_same" ["_law_found","_law_due"] (cQ n)
 |0=>DefX.none F Z (F.binds λ_ _ _ _ _ _ us Y=>match us,Y with|[_,_],_=>rfl)
 |n+1=>rM F Z T (kE F Z T n)
theorem uR{f:b_}{Y:f'}(F:Fun K "_law_same" "_law_same" (top 41) f Y)(Z:mg "_law_same"=ar (.ref f))(T:Txt K mg):DefX P w K mg base 7 "_law_same" ["_law_found","_law_due"] ij:=kE F Z T 6
theorem om{f:b_}{X:f'}(F:Fun K "_law_refused" "_law_refused" (top 42) f X)(Y:mg "_law_refused"=ar (.ref f))(T:Txt K mg):RefX P w K mg 9 8 "_law_refused" ["_law_call"] bD:=
 IP (m:=fu) F Y (F.binds λ_ _ _ _ _ _ us U=>match us,U with|[_],_=>rfl) bO rfl λbase G a O ql ds vs R L S A outer s H E Z=>
  av (aZ 1 bO.nd fh (hs:=nL)) (av (IK rfl rfl L (Z.mono (by decide)) bO.nd T.err G rfl (.inl rfl) rfl rfl rfl rfl rfl) (av (aZ 3 bO.nd (bG (af (ef T.err (by decide) G T.b_isinstance (aa 1)) (af (ef T.err (by decide) G T.b_isinstance (aa 1)) (af (ef T.err (by decide) G T.b_isinstance (aa 1)) ao aX) aX) aX)) (hs:=jc)) (av (aZ 3 bO.nd (cw (aa 3) (aF (bG (af (ef T.err (by decide) G T.b_isinstance (aa 1)) (af (ef T.err (by decide) G T.b_isinstance (aa 1)) (af (ef T.err (by decide) G T.b_isinstance (aa 1)) ao aX) aX) aX)))) (hs:=dW)) (av (aZ 3 bO.nd (cw (aa 3) (aF (bG (af (ef T.err (by decide) G T.b_isinstance (aa 1)) (af (ef T.err (by decide) G T.b_isinstance (aa 1)) (af (ef T.err (by decide) G T.b_isinstance (aa 1)) ao aX) aX) aX)))) (hs:=dW)) (av (aZ 3 bO.nd (cw (aa 3) (aF (bG (af (ef T.err (by decide) G T.b_isinstance (aa 1)) (af (ef T.err (by decide) G T.b_isinstance (aa 1)) (af (ef T.err (by decide) G T.b_isinstance (aa 1)) ao aX) aX) aX)))) (hs:=dW)) (av (gY (gy (aa 3) (ef T.err (by decide) G T.b_isinstance (aa 1)))) (av (cX (c0 (cZ (Fm T.err T.b_isinstance T.b_ValueError (aa 1)))) (aO (aV fh)) bR) (av (vS (pk 4 (t:=b8) (m:=b9) bO.nd (mX (Nc:=["_law_k","_law_marks"]) (js:=[none,ar 3]) (aA (top 42)) ["_law_call","_law_error","e","_law_marks","_law_found"] (λ_=>rfl) rfl (by decide+kernel)) rfl (iQ T.b_range au) (λC ex s2 Q=>⟨aW 0 (show(["_law_k","_law_marks"]:List Str).Nodup by decide+kernel),oy (cZ (aU (aa 1) (aa 0))),aa 0⟩))) (aO (aV (GF (r0 (fJ Z) (aa 4) (aF (bG (af au ao aD)))) (aF (cw (aa 4) (aF (bG (af (Fw T.err T.dk (aa 1)) (af (Fx T.err T.dk (aa 1)) ao mq) mq))))) (aa 4))))))))))))
end
theorem A8{P:eb}{w:er}{K:dt}{Q:Str->Option aC}{base:fg}{f c k:b_}{q:f'}(F:Fun K "law" "law" (top 46) f q)(T:Txt K Q)(G:Mod K Q base)(p:BaseL K Q base)(TI:uc K)(n:v_ K f_ "law"=ar (ar (.ref f)))(I:mu K "law"=ar (c,k))(Y:∀base,Mod K Q base->DefX P w K Q base 7 "read_web" ["text"] cf)(R:∀base,Mod K Q base->DefX P w K Q base 2 "_law_state" ["_law_script","_law_k"] gr)(U:∀base,Mod K Q base->DefX P w K Q base 1 "_law_take" ["_law_state_here","_law_many"] ay)(L:∀base,Mod K Q base->DefX P w K Q base 3 "_law_web" ["_law_state_here","_law_most"] eX)(X:∀base,Mod K Q base->DefX P w K Q base 2 "_law_great_web" ["_law_state_here"] bS)(O:∀base,Mod K Q base->DefX P w K Q base 7 "_law_same" ["_law_found","_law_due"] ij)(Z:RefX P w K Q 9 8 "_law_refused" ["_law_call"] bD)(eT:∀f c es,bD f c es=bw c es)(S:∀base,Mod K Q base->DefX P w K Q base 3 "_law_web_in" ["_law_text"] cV)(N:∀base,Mod K Q base->DefX P w K Q base 2 "_law_bent" ["_law_state_here","_law_text"] fb):FnOk P w K Q base (oG P w) 10 f q ["_law_script"] (Cp K sL):=
 IM (m:=Dl) F jm rfl n I λA outer s H E J=>
  av (kK (b:=jU) O0 rfl (iQ T.b_range (xg rfl T.b_max (af au (af (BU rfl T.b_min (af (gE T.b_len (aa 0)) (af au ao aD) aX)) ao aX) aD))) (aW 1 jm.nd) (av (aZ 2 jm.nd (aJ (R _ G) (J.mono (by decide)) (af (aa 0) (af (aa 1) ao aE) aE)) (hs:=eh)) (av (aZ 3 jm.nd (aU (aF (bG (af (aF (aJ (L _ G) (J.mono (by decide)) (af (aa 2) (af au ao aD) aE))) (af (aF (aJ (X _ G) (J.mono (by decide)) (af (aa 2) ao aE))) ao aX) aX))) (aF (aJ (U _ G) (J.mono (by decide)) (af (aa 2) (af au ao aD) aE)))) (hs:=gp)) (av (aZ 4 jm.nd (jO bA (aF (cw (aF (bG (af (dR (tQ T.b_str (aU (aa 3) au)) bA) ao cC))) (aF (fi (t:=jR) (m:=jS) (mX (Nc:=["_law_a","_law_b"]) (js:=[none,none]) (aA (top 46)) ["_law_script","_law_k","_law_state_here","_law_web_here","_law_text","_law_turn","_law_due","_law_odd"] (λ_=>rfl) rfl (by decide+kernel)) rfl (iq (aU (aa 3) au)) (λC ex s2 r=>⟨ja rfl (bI (aW 0 (show(["_law_a","_law_b"]:List Str).Nodup by decide+kernel)) (bI (aW 1 (show(["_law_a","_law_b"]:List Str).Nodup by decide+kernel)) gj)),gk,dR (dR (tQ T.b_str (aa 0)) bA) (tQ T.b_str (aa 1))⟩)))))) (hs:=eh)) (av (kK (b:=jT) O0 rfl (iQ T.b_range au) (aW 5 jm.nd) (av (aZ 6 jm.nd (aF (aJ (S _ G) (J.mono (by decide)) (af (aa 4) ao aE))) (hs:=eh)) (av (cX (GJ (aa 6) fh) (aO (cX (gZ (fJ J) (aF (Cv (ql:="law.<locals>.<lambda>") (m:=qv) (xl:="law") Z eT (J.mono (by decide)) (λ_=>rfl) (by decide) I rfl rfl rfl p TI rfl (KS (N3:=["_law_text"]) (js:=[4]) (aA (top 46)) ["_law_script","_law_k","_law_state_here","_law_web_here","_law_text","_law_turn","_law_due","_law_odd"] (λ_=>rfl) rfl (by decide+kernel)) ao (λ_ _ _ _=>rfl) (λy v f2 o u l B s2 r x z=>aF (gH (Y _ v) (z.mono (by decide)) p8.pass (af (aa 0) ao aE))))) (aF (bG (af au ao aD)))) (aO (aV fA)) bR)) (aO (cX (c0 (cZ (aF (aJ (O _ G) (J.mono (by decide)) (af (aF (aJ (Y _ G) (J.mono (by decide)) (af (aa 4) ao aE))) (af (aa 6) ao aE) aX))))) (aO (aV fA)) bR))) (aO (aZ 4 jm.nd (aF (aJ (N _ G) (J.mono (by decide)) (af (aa 2) (af (aa 4) ao aE) aE))) (hs:=eh)))))) (@av _ _ _ _ _ _ (@Dk _ _ _ _ _ _ _ _ _ _ _ 7 jm.nd (by (refine @ba _ _ _ _ _ _ fh ?_ aD;refine @ba _ _ _ _ _ _ au ?_ aD;refine @ba _ _ _ _ _ _ (CB 6 rfl) ?_ pW;refine @ba _ _ _ _ _ _ (aF (bG (af bA ao aD))) ?_ Ff;refine @ba _ _ _ _ _ _ fA ?_ aD;refine @ba _ _ _ _ _ _ Ie ?_ Fg;refine @ba _ _ _ _ _ _ (CB 6 rfl) ?_ pW;exact ao)) (aF (aJ (U _ G) (J.mono (by decide)) (af (aa 2) (af au ao aD) aE))) (by intro _ _;rfl) rfl (by first|exact SC rfl|exact Si rfl) (by first|exact SC rfl|exact Si rfl)) (aO (cX (gZ (fJ J) (aF (Cv (ql:="law.<locals>.<lambda>") (m:=qw) (xl:="law") Z eT (J.mono (by decide)) (λ_=>rfl) (by decide) I rfl rfl rfl p TI rfl (KS (N3:=["_law_odd"]) (js:=[7]) (aA (top 46)) ["_law_script","_law_k","_law_state_here","_law_web_here","_law_text","_law_turn","_law_due","_law_odd"] (λ_=>rfl) rfl (by decide+kernel)) ao (λ_ _ _ _=>rfl) (λy v f2 o u l B s2 r x z=>aF (gH (Y _ v) (z.mono (by decide)) p8.pass (af (aa 0) ao aE))))) (aF (bG (af au ao aD)))) (aO (aV fA)) bR)))))))) (aO (aV fA))
abbrev lP:Program:=PySem.Challenge.rw_tiewebs_k91_texts_that_write_none.prog
abbrev kW(w:er):W.Frag:=KH.K0 w.params
theorem fk{K:dt}{f c:b_}{m:aC}(x q:Str)(st:sb)(l:K.lookup f=ar ⟨.type "function",none,.func (C_ x q (fL st) (dC st) (aA st) .none .none .none m none (.ref c) .none), #[]⟩)(h:RX K (.ref c) q=c_)(k:A_ K (.ref f)=c_):Fun K x q st f (C_ x q (fL st) (dC st) (aA st) .none .none .none m none (.ref c) .none):=HR l h k
abbrev nK(w:er)(x:Str):Option (Option aC):=v_ (kW w) f_ x
abbrev zQ:Value:=KH.zs "law_tiewebs_k91_texts_that_write_none" 515
abbrev LN:Value:=KH.zs "tiewebs.texts" 481
abbrev JO:Value:=KH.zs "tiewebs.webs" 426
theorem oq{w:er}{Z:Str->Option aC}{h:fg}(X:(kW w).In h)(G:h.Ns f_ Z)(f c:b_)(m:aC)(x:Str)(st:sb)(a:nK w x=ar (ar (.ref f)):=by kernel_rfl)(l:(kW w).lookup f=ar ⟨.type "function",none,.func (C_ x x (fL st) (dC st) (aA st) .none .none .none m none (.ref c) .none), #[]⟩:=by kernel_rfl)(j:RX (kW w) (.ref c) x=true:=by kernel_rfl)(k:A_ (kW w) (.ref f)=true:=by kernel_rfl):Z x=ar (.ref f)/\Fun (kW w) x x st f (C_ x x (fL st) (dC st) (aA st) .none .none .none m none (.ref c) .none):=⟨Pg X G a,fk x x st l j k⟩
theorem Nm(w:er)(U:Str->Option aC)(fa:b_)(h:fg)(X:(kW w).In h)(G:h.Ns f_ U)(c4:U "law"=ar (.ref fa)):∃fd:f',(∀(s:a_) (u:aC),Q8 s fd ⟨[u],[]⟩ [("_law_script",u)])/\∀base:fg,Mod (kW w) U base->BaseL (kW w) U base->FnOk lP w (kW w) U base (oG lP w) 10 fa fd ["_law_script"] (Cp (kW w) sL):=by
 obtain⟨l,b0⟩:=oq X G 197 196 JO "is_whole" (top 17);obtain⟨c3,a9⟩:=oq X G 204 203 JO "is_pair" (top 18);obtain⟨a5,e3⟩:=oq X G 211 210 JO "is_place" (top 19);obtain⟨c7,e4⟩:=oq X G 218 217 JO "is_tie" (top 20);obtain⟨f6,b5⟩:=oq X G 223 222 JO "is_rising" (top 21);obtain⟨f,e8⟩:=oq X G 228 227 JO "is_web" (top 22);obtain⟨a4,b2⟩:=oq X G 235 234 JO "need_web" (top 23);obtain⟨c6,e0⟩:=oq X G 240 239 LN "read_number" (top 27);obtain⟨e7,g4⟩:=oq X G 247 246 LN "read_tie" (top 28);obtain⟨f5,a⟩:=oq X G 252 251 LN "web_text" (top 29);obtain⟨b6,a7⟩:=oq X G 257 256 LN "read_web" (top 30);obtain⟨k,b⟩:=oq X G 264 263 zQ "_law_cell_at" (top 32);obtain⟨d,g5⟩:=oq X G 271 270 zQ "_law_state" (top 33);obtain⟨c8,e5⟩:=oq X G 278 277 zQ "_law_take" (top 34);obtain⟨b4,d2⟩:=oq X G 283 282 zQ "_law_pairs" (top 35);obtain⟨a0,a3⟩:=oq X G 290 289 zQ "_law_mixed_row" (top 36);obtain⟨g,f3⟩:=oq X G 295 294 zQ "_law_web" (top 37);obtain⟨d3,i⟩:=oq X G 302 301 zQ "_law_great_web" (top 38);obtain⟨e2,d0⟩:=oq X G 309 308 zQ "_law_whole" (top 39);obtain⟨e6,c2⟩:=oq X G 316 315 zQ "_law_is_web" (top 40);obtain⟨c,b3⟩:=oq X G 321 320 zQ "_law_same" (top 41);obtain⟨d1,b1⟩:=oq X G 326 325 zQ "_law_refused" (top 42);obtain⟨j,e1⟩:=oq X G 333 332 zQ "_law_number" (top 43);obtain⟨c1,c5⟩:=oq X G 338 337 zQ "_law_web_in" (top 44);obtain⟨c9,a8⟩:=oq X G 345 344 zQ "_law_bent" (top 45);have m:nK w "law"=ar (ar (.ref 350)):=by kernel_rfl
 have a6:=@fk (kW w) 350 349 (KH.zs "law_tiewebs_k91_texts_that_write_none" 515) "law" "law" (top 46) (by kernel_rfl) (by kernel_rfl) (by kernel_rfl);obtain⟨⟨ct,Pt⟩,n⟩:=OH.mp (show(mu (kW w) "law").isSome=c_ by kernel_rfl);have e:=c4.symm.trans (Pg X G m);cases e;have T:Txt (kW w) U:=⟨by kernel_rfl,by kernel_rfl,N6 X G (by kernel_rfl),N6 X G (by kernel_rfl),N6 X G (by kernel_rfl),N6 X G (by kernel_rfl),N6 X G (by kernel_rfl),N6 X G (by kernel_rfl),N6 X G (by kernel_rfl),N6 X G (by kernel_rfl),N6 X G (by kernel_rfl),N6 X G (by kernel_rfl),N6 X G (by kernel_rfl),N6 X G (by kernel_rfl),N6 X G (by kernel_rfl),N6 X G (by kernel_rfl),N6 X G (by kernel_rfl),⟨485,Pg X G (by kernel_rfl)⟩,⟨428,Pg X G (by kernel_rfl)⟩,⟨483,Pg X G (by kernel_rfl)⟩⟩;refine⟨C_ "law" "law" (fL (top 46)) (dC (top 46)) (aA (top 46)) .none .none .none (KH.zs "law_tiewebs_k91_texts_that_write_none" 515) none (.ref 349) .none,λs v=>.of_eq rfl,λbase GM BL=>?_⟩;have Q:=λbase (GB:Mod (kW w) U base)=>wC (P:=lP) (w:=w) (base:=base) b0 l T;have I:=λbase (GB:Mod (kW w) U base)=>yb (P:=lP) (w:=w) (base:=base) a9 c3 T;have A:=λbase (GB:Mod (kW w) U base)=>uO (P:=lP) (w:=w) (base:=base) b5 f6 T;have Y:=λbase (GB:Mod (kW w) U base)=>qV (P:=lP) (w:=w) (base:=base) e0 c6 T;have O:=λbase (GB:Mod (kW w) U base)=>oj (P:=lP) (w:=w) (base:=base) b k T;have Z:=λbase (GB:Mod (kW w) U base)=>uP (P:=lP) (w:=w) (base:=base) e5 c8 T;have E:=λbase (GB:Mod (kW w) U base)=>rJ (P:=lP) (w:=w) (base:=base) d2 b4 T;have H:=λbase (GB:Mod (kW w) U base)=>rK (P:=lP) (w:=w) (base:=base) d0 e2 T;have L:=λbase (GB:Mod (kW w) U base)=>qX (P:=lP) (w:=w) (base:=base) e1 j T;have x:=λbase (GB:Mod (kW w) U base)=>wD (P:=lP) (w:=w) (base:=base) e3 a5 T (Q base GB);have y:=λbase (GB:Mod (kW w) U base)=>wF (P:=lP) (w:=w) (base:=base) g4 e7 T (Y base GB);have F:=λbase (GB:Mod (kW w) U base)=>rL (P:=lP) (w:=w) (base:=base) g5 d T (O base GB);have R:=λbase (GB:Mod (kW w) U base)=>mF (P:=lP) (w:=w) (base:=base) a3 a0 T (Z base GB);have S:=λbase (GB:Mod (kW w) U base)=>mG (P:=lP) (w:=w) (base:=base) i d3 T (Z base GB);have J:=λbase (GB:Mod (kW w) U base)=>qY (P:=lP) (w:=w) (base:=base) c2 e6 T (H base GB);have B:=λbase (GB:Mod (kW w) U base)=>uQ (P:=lP) (w:=w) (base:=base) a8 c9 T (Z base GB);have o:=λbase (GB:Mod (kW w) U base)=>A6 (P:=lP) (w:=w) (base:=base) e4 c7 T (I base GB) (x base GB);have p:=λbase (GB:Mod (kW w) U base)=>wG (P:=lP) (w:=w) (base:=base) f3 g T (Z base GB) (E base GB) (R base GB);have K:=λbase (GB:Mod (kW w) U base)=>qZ (P:=lP) (w:=w) (base:=base) c5 c1 T (J base GB) (L base GB);have C:=λbase (GB:Mod (kW w) U base)=>A7 (P:=lP) (w:=w) (base:=base) e8 f T (Q base GB) (I base GB) (o base GB) (A base GB);have q:=λbase (GB:Mod (kW w) U base)=>wH (P:=lP) (w:=w) (base:=base) b2 a4 T (C base GB);have r:=λbase (GB:Mod (kW w) U base)=>wI (P:=lP) (w:=w) (base:=base) a f5 T (q base GB);have t:=λbase (GB:Mod (kW w) U base)=>wJ (P:=lP) (w:=w) (base:=base) a7 b6 T (C base GB) (Y base GB) (y base GB) (r base GB);have z:=λbase (GB:Mod (kW w) U base)=>uR (P:=lP) (w:=w) (base:=base) b3 c T;have N:RefX lP w (kW w) U 9 8 "_law_refused" ["_law_call"] bD:=om b1 d1 T;exact A8 a6 T GM BL (IL (show GN (kW w)=c_ by kernel_rfl)) m n t F Z p S z N eT K B
end W
section
namespace W
open PySem PySem.Spec PyProof.Rows L2 S3 S4 S7
theorem JP(K:dt)(H:Hp)(a:b_)(ns:List Int)(U:TabsOk K H)(Z:Em K H a (ns.map V.int)):Cp K sL [.ref a] H (λv _=>v= .bl c_) λ_ _ _=>False:=by obtain⟨d,Y,e,hd⟩:=Lz (S:=[]) (ns:=ns);refine⟨[],[],[.ro (ns.map D.int)],⟨.nil,rfl,(λk a xs h=>by cases h),U⟩,.cons (.ro Z (pF ns)) .nil,?_⟩;refine⟨.ok d,Y,e,λX R _ _=>?_⟩;subst hd;intro v T;cases T;rfl
theorem walk{l:Tn}{q:eb}{loose:List Str}{XP:(Str->Option aC)->fg->Prop}{YP:er->fg->Prop}{d:T6}{K:Rx->dt}(R:l.most=ar 63)(Y:d.params.defaults=[])
  (X:∀(w:er) (h:fg),YP w h->(K w.params).In h) (S:∀w:er,TY (K w.params)=c_)
  (Z:∀(w:er) (h:fg),YP w h->∀y∈cg,∀c Q,mu (K w.params) y=ar (c,Q)->R0 h c Q/\h.get? Q=ar (B' #[]))
  (F:∀(w:er) (mg:Str->Option aC) (fa:b_) (h:fg),(K w.params).In h->h.Ns f_ mg->mg d.name=ar (.ref fa)->
   ∃fd:f',(∀(s:a_) (u:aC),Q8 s fd ⟨[u],[]⟩ [("_law_script",u)])/\∀base:fg,Mod (K w.params) mg base->BaseL (K w.params) mg base->FnOk l.prog w (K w.params) mg base (oG l.prog w) 10 fa fd ["_law_script"] (Cp (K w.params) sL)):
  Ud q loose XP YP l.row.toRowW d [] (λf vs=>PySem.call f vs):=
 Cw (n:=63) (k:=10) (x:="_law_script") (sp:=λw=>Cp (K w.params) sL) R (by decide) Y ⟨rfl,by decide,by decide⟩ X S Z F λw H a ns _ T U=>JP (K w.params) H a ns T U
end W
open PySem PySem.W PyProof.Rows
set_option maxRecDepth 100000 in
set_option maxHeartbeats 0 in
theorem PySem.Challenge.cw_tiewebs_k91_texts_that_write_none_holds : PySem.Challenge.rw_tiewebs_k91_texts_that_write_none.Holds := by
 w_on;o_law
 refine holds_open (q:=KH.vq) (loose:=[]) (Xt:=KH.Xt0) (XP:=XL KH.vq []) (Yf:=TC (RU KH.K0 KH.as0 KH.as0_eq KH.ts0)) (Ya:=TF (RU KH.K0 KH.as0 KH.as0_eq KH.ts0)) (YP:=Hook.says (RU KH.K0 KH.as0 KH.as0_eq KH.ts0)) (N:=7740) KH.left0 (Hook.of (RU KH.K0 KH.as0 KH.as0_eq KH.ts0)) (Hook.keeps (RU KH.K0 KH.as0 KH.as0_eq KH.ts0)) (fun s e=>xl_of s (Bool.and_eq_true_iff.mp e).1) XL.keeps (by rfl) (by rfl) (by rfl) (fun s e=>recFacts_of (Bool.and_eq_true_iff.mp e).2) (by rfl) (by first|assumption|decide+kernel) (by decide+kernel) ⟨rfl,rfl,rfl,rfl,rfl,by decide+kernel⟩ ?hw ?hc
 case hw=>w_witness2
 refine W.walk (l:=PySem.Challenge.rw_tiewebs_k91_texts_that_write_none) rfl rfl (fun w h Y=>PySem.W.km_in_of Y) ?nt (fun w h Y=>S7.ME (w:=w) ?ck Y) W.Nm
 case nt=>intro w;kernel_rfl
 case ck=>kernel_rfl
end
