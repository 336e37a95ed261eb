import PyProof.Rows.All
import Wide.All
import OpenK.AllK
import Wide.FinOn
import PySem.Challenge.RW_tiewebs_k03_maps_known
import Lean
import PyProof.EqAt
import PyProof.EqKinds
import PyProof.TupleCall
import PyProof.SetScanFacts
import PyProof.EnumMake
import PyProof.Draws
import PyProof.ExcInit
import PyProof.ExcClass3
import PyProof.InstStore
import KE.KUnpack
set_option Elab.async false
set_option compiler.extract_closed false
set_option linter.all false
set_option maxRecDepth 100000
set_option maxHeartbeats 8000000
noncomputable section
open Option renaming some->ar,map_some->z6,bind_some->Ic
open Pure renaming pure->aC
open PySem renaming Value->a_,Shared->c_,Addr->dt,starEach->ee,wpAny->er,Program->eM,World->fg,model->f_,FuncData->gc,Heap->gd,mainGlobals->g_,Around->hI,eval->hS,compareOp->j_,cellsFrom->kS,importedModules->k7,bootBuiltins->k8,IsTupleKey->k_,swapsWith->la,SetTable->l_,behindInMarks->mh,rawInt->mv,NameKind->m_,intKind->nC,foldedSetIterable->n3,attributeBase->o_,backTo->pa,PyData->pb,assignEach->p4,IsPair->q_,Stmt->ri,binaryOp->t8,cLine->u_,builtinsNs->wd,sliceBounds->wg,excClassObj->wh,callerA->w_,ExcBaseFacts->x_,pyNext->z7,holding->A',codeAny->B_,firstArgMember->Fn,BindsTo->F_,ofAClassStatement->G2,swapsWithSole->G_,swappedStores->H0,treeTable->J_,codeAmong->K_,checkBuiltinCall->K',IsZip->LI,letOwnedTupleGo->M',Params->O',GenState->P_,assign->QK,OsState->QV,PassesOwn->QZ,leaving->Q0,Arguments->Q2,getItem->Q3,noteFrame->Q5,assignInOrder->Q7,seq_tuple_add->Q8,evalPart_none->Q_,wpAny_newList->Rc,IsPart->Re,isInstance->Rf,bindName->Rh,concat_meets->Rm,lastMarks->Rv,seqIndex?->Rw,isSubtype->Rz,pickOrder->RA,seqIndex_of->RC,hashByValue->RD,wpAny_of_eq->RE,field->RG,wpAny_letGo->RH,Keyword->RJ,OwnTail->RK,sysModules->RL,wpAny_Name->RM,pyIter->RN,again->RO,bindArgs->RP,bindL->RQ,bindC->RR,call_meets->RT,closureFor->RU,setsByText->RZ,ZipApart->R0,TriplesOk->R7,seqItems?->R8,onTheHeap->R_,standAt->Sa,Model->Sj,entryFor->Sq,slotArgs->Sr,Result->Sx,DefRec->Sy,argsOk->SD,newExc->SF,setItem->SH,getAttr->SJ,newList->SN,collect->SQ
open Bool renaming true->b_,false->dV,false_eq_true->fc,and_eq_true->i_,not_true->pz,or_eq_true->A_,not_eq_true'->G3,and_false->O_,and_self->Ra
open PySem.W renaming Frag->d_,tabIn->m2,nsIn->p_,kitOne->r_,kas_place->td,kas_asc->t5,kas_desc->u0,kas_rev->u3,kas_sort->vr,openSeen->wN,openGood->w7,tabObj->xy,findIn->yn,kla_obj->y1,InstAt->z4,keepIn->z5,boot_heap->C_,fnOf->D_,findIn->D',behindTheImports->I_,kmHook->Qd,CodeHd->QQ,kas_bin->Q4,lookIn->Ri,codeIn->Rl,kas_descPart->Ro,looks_findIn->Rt,clsIn->Ru,kas_count->Ry,methodObj->RB,kitAny->RV,instObj->R4,OpenLaw->R5,kas_tail3->R6,mroIn->R9,findObj->Se,excIn->Sg,exmOne->Ss,kla_fn->Su,notCls->Sv,noTabs->Sw,KasT->Sz,OpenLaw->SK,WalkO->SL,clsIn->SR,Frag->SV
open List renaming range->eb,not_mem_nil->fb,mem_cons->f',getD_eq_getElem?_getD->k6,replicate->lu,lookup_cons->l6,size_toArray->mu,range'->pe,length_cons->rn,all_eq_true->x',length_nil->z_,toArray->B',length->GB,map_cons->G4,cons_append->L0,mem_append->M_,forIn_cons->N_,drop_zero->QM,all_cons->Q6,map_nil->Rg
open PySem.Value renaming ref->ey,none->hO,int->pd,bool->t6,type->t7,builtin->y',str->J',float->Qn
open PySem.SetTable renaming insertAt->e_,below->v_,fresh->EW,turns->E_,below->QO,runEnd->RW,advance->Sd,bits->Sl,turns->Sn
open PySem.PyData renaming eqv->gg,eqvAll->ly,depthAll->n_,int->oD,list->sb,tuple->Rp
open False renaming elim->hJ
open PySem.Str renaming ofString->hY
open PySem.NameKind renaming free->h_,cell->p8
open PySem.Builtin.SmallTypes renaming nextOf->ip,ownedTupleIsFree->lx
open PySem.Builtin.Tuple renaming tupleExact->j3,tupleItemsOf->t_
open PySem.Builtin.Slice renaming slicePlaces->j',sliceApplied->t9,sliceAdjust->u4
open Ne renaming symm->kr
open PySem.Obj renaming mapSeq->m1,mapFields->y_,putSet->L_
open PyProof.Rows renaming IntsAre->n7,seqObj->t4,AllBare->y2,envOfC->z8,tupleItemsOf_->Q9,Subscript_->RS,IsTup->R3,tail_any->Sk,bubble->SC,Call_->SU
open True renaming intro->p7
open PySem.Heap renaming SameBut->sA,MadeExcOf->QR,IsTuple->Rr,ExtBut->RF
open Array renaming replicate->s_,length_toList->u5,mk->z3,getD->RY
open PySem.Builtin.List renaming listTooLong->vn
open ForInStep renaming yield->A2
open List.Perm renaming cons->EA
open Int renaming toNat_natCast->F0
open PySem.SetTable.layClean renaming free->H_
open Or renaming inr->QL,inl->Rx
open Sum renaming inl->QW,inr->QX
open PyProof.Rows.IsTup renaming new->QY
open PySem.Shared renaming TypeIs->Rb,heap->RI
open PySem.Around renaming under->Rj
open PySem.Code renaming isFrame->Rk
open PySem.W.KasT renaming ret->Rn
open PySem.pickOrder renaming go->Rq
open PySem.SetTable.below renaming go->RX
open PySem.Within renaming nil->R1
open PySem.W.Hook renaming obs->Sh,val->Si
open PySem.SetTable.probe renaming go->So
open ForIn renaming forIn->SM
abbrev Mo:=@PySem.wpAny_bind
abbrev Mp:=@PySem.Heap.get?_push_of_some
abbrev Mq:=@List.length_map
abbrev Mr:=@PySem.wpAny_pure
abbrev Ms:=@Nat.le_refl
abbrev Mt:=@List.getElem?_eq_getElem
abbrev Mu:=@List.length_append
abbrev Mv:=@List.getElem?_eq_some_iff
abbrev Mw:=@k6
abbrev Mx:=@PySem.Heap.lt_size
abbrev My:=@List.mem_cons_of_mem
abbrev Mz:=@PySem.Heap.get?_push_size
abbrev MA:=@Array.getElem?_eq_getElem
abbrev MB:=@mu
abbrev MC:=@List.mem_range
abbrev MD:=@Nat.ne_of_lt
abbrev ME:=@Nat.le_trans
abbrev MF:=@decide_eq_true
abbrev MG:=@Nat.lt_of_lt_of_le
abbrev MH:=@List.mem_cons_self
abbrev MI:=@PySem.W.mg_of
abbrev MJ:=@List.mem_map
abbrev MK:=@f'
abbrev ML:=@Nat.zero_le
abbrev MM:=@x'
abbrev MN:=@List.getElem?_append_left
abbrev MO:=@List.getElem?_map
abbrev MP:=@decide_eq_false
abbrev MQ:=@Array.getElem?_eq_some_iff
abbrev MR:=@List.length_range
abbrev MS:=@Option.some.inj
abbrev MT:=@congrFun
abbrev MU:=@G4
abbrev MV:=@Array.getElem?_toList
abbrev MW:=@rn
abbrev MX:=@List.mem_append_right
abbrev MY:=@List.append_assoc
abbrev MZ:=@List.map_map
abbrev M0:=@PySem.wpAny_newObj_type
abbrev M1:=@List.mem_of_getElem?
abbrev M3:=@List.append_nil
abbrev M4:=@PySem.W.mg_none_of
abbrev M5:=@i_
abbrev M6:=@l6
abbrev M7:=@Array.getD_eq_getD_getElem?
abbrev M8:=@F0
abbrev M9:=@List.getElem?_set_self
abbrev Na:=@PySem.Heap.get?_update_other
abbrev Nb:=@List.filterMap_cons
abbrev Nd:=@PySem.wpAny_holding
abbrev Nf:=@PySem.wpAny_mono
abbrev Ng:=@PySem.wpAny_call_entry
abbrev Nh:=@decide_eq_true_eq
abbrev Ni:=@PySem.wpAny_field
abbrev Nj:=@List.nodup_cons
abbrev Nk:=@Option.isSome_iff_exists
abbrev Nl:=@PyProof.Rows.slot_tuple_getitem
abbrev Nm:=@of_decide_eq_true
abbrev Nn:=@List.pairwise_cons
abbrev Np:=@PySem.Heap.get?_update_self
abbrev Nq:=@PySem.sizeLine_eq
abbrev Nr:=@List.mem_filter
abbrev Nt:=@PySem.W.kia_one
abbrev Nu:=@PySem.Heap.get?_none_of_le
abbrev Nv:=@List.getElem?_set_ne
abbrev Nw:=@List.getElem?_eq_none
abbrev Nx:=@PySem.PassesOwn.never
abbrev Ny:=@List.getElem_mem
abbrev Nz:=@Nat.lt_succ_of_lt
abbrev NA:=@Bool.false_and
abbrev NB:=@PySem.Heap.size_push
abbrev NC:=@List.map_append
abbrev ND:=@PyProof.Rows.callWith_type1
abbrev NF:=@Bool.true_and
abbrev NG:=@PySem.W.kia_tup
abbrev NH:=@List.mem_singleton
abbrev NI:=@List.length_take
abbrev NJ:=@Array.getElem?_eq_none
abbrev NK:=@PySem.wpAny_truthy_bool
abbrev NL:=@PySem.wpAny_setState_of
abbrev NM:=@PySem.Heap.SameBut.update
abbrev NN:=@PySem.wpAny_standAt
abbrev NO:=@PySem.wpAny_seqItems
abbrev NP:=@List.cons.inj
abbrev NQ:=@M_
abbrev NR:=@Rg
abbrev NS:=@List.mem_filterMap
abbrev NT:=@Bool.false_ne_true
abbrev NU:=@PySem.wpAny_pyIter_tuple
abbrev NV:=@PySem.Obj.data_mapFields
abbrev NW:=@Nat.lt_irrefl
abbrev NX:=@List.filter_cons_of_pos
abbrev NY:=@List.filter_cons_of_neg
abbrev NZ:=@Nat.ne_of_gt
abbrev N0:=@List.getElem?_append_right
abbrev N1:=@PySem.F.slot_tuple_iterator_next
abbrev N4:=@PySem.F.excBase_ValueError
abbrev N5:=@Nat.le_of_lt
abbrev N6:=@Int.emod_lt_of_pos
abbrev N7:=@List.getElem?_toArray
abbrev N8:=@PySem.wpAny_setField_rec
abbrev N9:=@PySem.Around.under_plainId
abbrev Oa:=@PySem.wpAny_passesOwn
abbrev Ob:=@PySem.AutoSeq1.wpAny_loadPart'
abbrev Oc:=@List.pairwise_map
abbrev Od:=@PySem.codeAny_mono
abbrev Oe:=@PySem.mem_of_lookup
abbrev Of:=@u5
abbrev Og:=@Nat.le_succ
abbrev Oh:=@List.Perm.nodup_iff
abbrev Oi:=@PySem.Heap.get?_update_ne
abbrev Oj:=@Nat.lt_succ_self
abbrev Ol:=@Nat.le_add_right
abbrev Om:=@PySem.wpAny_isInstance
abbrev On:=@Ic
abbrev Oo:=@PySem.wpAny_setField
abbrev Oq:=@PySem.Heap.size_after_update
abbrev Os:=@List.filter_eq_nil_iff
abbrev Ot:=@PySem.wpAny_Call_Name_kw
abbrev Ou:=@List.getElem?_take
abbrev Ov:=@PySem.wpAny_execs_nil
abbrev Ow:=@PySem.wpAny_typeOf
abbrev Ox:=@List.all_map
abbrev Oy:=@Int.emod_nonneg
abbrev Oz:=@List.mem_iff_getElem?
abbrev OA:=@List.Pairwise.sublist
abbrev OB:=@PySem.codeAny_builtin
abbrev OC:=@PySem.Obj.isFreed_of_fields
abbrev OD:=@Bool.eq_iff_iff
abbrev OE:=@List.length_filter_le
abbrev OF:=@List.set_append_right
abbrev OG:=@congrArg
abbrev OH:=@PySem.wpAny_attempt
abbrev OI:=@PySem.wpAny_loadPart_at
abbrev OJ:=@pz
abbrev OK:=@List.perm_ext_iff_of_nodup
abbrev OL:=@List.mem_append_left
abbrev OM:=@PySem.List.filterMap_getElem?_range_length
abbrev ON:=@Classical.byContradiction
abbrev OO:=@List.getElem?_zip_eq_some
abbrev OP:=@Nat.succ_le_succ
abbrev OQ:=@PySem.wpAny_askSetting
abbrev OR:=@Bool.not_eq_true
abbrev OS:=@List.getElem?_range
abbrev OT:=@List.map_congr_left
abbrev OU:=@PySem.F.args_tuple_add_2
abbrev OV:=@Nat.le_of_eq
abbrev OW:=@List.Perm.eq_of_pairwise
abbrev OX:=@List.of_mem_zip
abbrev OY:=@PySem.F.entry_tuple_add
abbrev OZ:=@List.length_set
abbrev O0:=@Array.Perm.refl
abbrev O1:=@PyProof.Rows.F.plain_set_update_loop
abbrev O2:=@List.filter_map
abbrev O3:=@PySem.W.cellsFrom_some
abbrev O4:=@PySem.F.slot_tuple_add
abbrev O5:=@List.take_of_length_le
abbrev O6:=@PySem.W.kitx_list
abbrev O7:=@PySem.W.kitx_dict
abbrev O8:=@PySem.wpAny_call
abbrev O9:=@List.reverse_cons
abbrev Pa:=@Nat.le_of_succ_le
abbrev Pb:=@Nat.lt_trichotomy
abbrev Pc:=@List.ext_getElem?
abbrev Pd:=@Prod.ext
abbrev Pe:=@PySem.isSubtype_type
abbrev Pf:=@PySem.isSubtype_stop
abbrev Pg:=@Bool.not_false
abbrev Ph:=@List.length_singleton
abbrev Pi:=@Int.zero_add
abbrev Pj:=@PySem.builtinLookup_eq_fast
abbrev Pk:=@PySem.wpAny_forIn_list
abbrev Pl:=@PySem.wpAny_pyIter_zip
abbrev Pm:=@List.nodup_range
abbrev Pn:=@List.isEmpty_iff
abbrev Po:=@Array.mem_toList_iff
abbrev Pp:=@PySem.Calls.evalArgs_plain
abbrev Pq:=@List.mem_iff_getElem
abbrev Pr:=@Nat.pow_le_pow_right
abbrev Pu:=@List.range_eq_range'
abbrev Pw:=@PySem.codeAny_call_builtin
abbrev Px:=@PySem.wpAny_updateSeq_pair
abbrev Py:=@PySem.F.args_tuple_iterator_next_1
abbrev Pz:=@PySem.wpAny_rule
abbrev PB:=@PyProof.Rows.intsAre_of
abbrev PC:=@PyProof.Rows.entry_tuple_getitem
abbrev PD:=@Nat.min_le_left
abbrev PF:=@List.length_reverse
abbrev PH:=@PySem.wpAny_setEntries_of
abbrev PJ:=@PySem.F.entry_tuple_iterator_next
abbrev PK:=@PySem.F.slot_zip_next
abbrev PL:=@beq_false_of_ne
abbrev PM:=@PySem.Calls.Name_function_global
abbrev PN:=@List.length_eraseIdx_of_lt
abbrev PP:=@PyProof.Rows.assignInOrder_cons
abbrev PQ:=@Array.find?_toList
abbrev PR:=@List.zip_cons_cons
abbrev PU:=@PyProof.Rows.args_tuple_getitem
abbrev PV:=@Nat.lt_trans
abbrev PX:=@List.getElem?_drop
abbrev PY:=@PySem.Code.quiet_builtin
abbrev PZ:=@Bool.or_true
abbrev P0:=@List.length_range'
abbrev P1:=@Nat.sub_self
abbrev P2:=@List.drop_eq_getElem_cons
abbrev P3:=@O_
abbrev P4:=@List.pairwise_iff_getElem
abbrev P5:=@PySem.Calls.call_function_entry
abbrev P6:=@PySem.wpAny_letOwnedTupleGo_zip
abbrev P7:=@PySem.wpAny_pyIter_list
abbrev P8:=@PySem.W.kitx_none
abbrev P9:=@List.getElem?_take_of_lt
abbrev Qa:=@List.take_sublist
abbrev Qb:=@PySem.wpAny_sequenceKey
abbrev Qc:=@Nat.mod_lt
abbrev Qe:=@Bool.eq_false_iff
abbrev Qf:=@List.mem_range'_1
abbrev Qg:=@Array.getElem?_replicate
abbrev Qh:=@PySem.Obj.cls_mapFields
abbrev Qi:=@PySem.wpAny_pyIter_enum
abbrev Qj:=@PySem.wpAny_Call_ofName
abbrev Qk:=@List.flatMap_cons
abbrev Ql:=@List.Pairwise.imp_of_mem
abbrev Qm:=@Q6
abbrev Qo:=@PySem.plainId_quiet
abbrev Qp:=@List.length_eq_zero_iff
abbrev Qq:=@PySem.wpAny_onRaise
abbrev Qs:=@List.map_id
abbrev Qt:=@List.pairwise_singleton
abbrev Qu:=@PySem.wpAny_eqBool_int
abbrev Qv:=@List.getElem_inj
abbrev Qw:=@PySem.wpAny_execs_cons
abbrev Qx:=@PySem.noFill_tuple_add
abbrev Qy:=@List.length_drop
abbrev Qz:=@Nat.le_of_not_lt
abbrev QA:=@List.take_length
abbrev QB:=@Nat.succ_ne_self
abbrev QC:=@List.mem_flatMap
abbrev QD:=@List.ext_getElem
abbrev QE:=@Nat.not_lt_zero
abbrev QF:=@PySem.pushCells_keeps
abbrev QG:=@PySem.codeAny_of_tree
abbrev QH:=@PySem.typeLookup_type
abbrev QI:=@List.take_left
abbrev QJ:=@PySem.Within.cons
abbrev QN:=@LawfulBEq.eq_of_beq
abbrev QP:=@List.map_take
abbrev QS:=@List.any_cons
abbrev QT:=@Nat.not_lt
abbrev QU:=@beq_iff_eq
namespace KH
open PySem PySem.W PySem.Spec PyProof.Rows
def tp(i:Nat):Stmt:=PySem.Challenge.pw_tiewebs_k03_maps_known.main.body.getD i (.Pass ⟨0,0,0,0⟩)
def iC:ri->ri
 | .ClassDef _ _ _ (b::_) .. =>b
 |s=>s
def dA(s:ri):Arguments:=match s with
 | .FunctionDef _ a _ _ _ _ _ _ _ _=>a
 |_=>{posonlyargs:=[],args:=[],vararg:=none,kwonlyargs:=[],kw_defaults:=[],kwarg:=none,defaults:=[]}
def dB(s:ri):List Stmt:=match s with
 | .FunctionDef _ _ b _ _ _ _ _ _ _=>b
 |_=>[]
def dS(s:ri):Scope:=match s with
 | .FunctionDef _ _ _ _ _ _ sc _ _ _=>sc
 |_=>{kind:=.function,names:=[],isGenerator:=dV,isCoroutine:=dV}
def zs(x:String)(t:Nat):Value:=.str (hY x) t
def ze(P:O')(x:String)(t:Nat)(v:a_):DictEntry:=⟨PyData.keyHash P (hY x),zs x t,v⟩
def zt(xs:Array a_):Obj:=⟨.type "tuple",none,.seq xs, #[]⟩
def zc(n q:String)(a:Nat)(l ac p5 p6 fl:Int)(r8:a_)(p10:Int)(r11 r13 r14 r15:a_)(p16:Int)(t:Nat):Obj:=⟨.type "code",none,.fields #[zs n a,zs q (a+1),zs "/claim/cut.py" (a+2),.int l 0,.int ac 0,.int p5 0,.int p6 0,.int fl 0,r8,.bool b_,.int p10 0,r11,.none,r13,r14,r15,.int p16 0,.int l 0,zs "/claim/cut.py" t], #[]⟩
def zf(n q:String)(st:ri)(kV dc pm:a_)(an:Option dt)(cd ct:a_):Data:=.func (D_ (hY n) (hY q) (dA st) (dB st) (dS st) .none kV dc pm an cd ct)
def zg(n q:String)(st:ri):Obj:=⟨.none,none,.func {name:=hY n,qualname:=hY q,params:=dA st,body:=.stmts (dB st),scope:=dS st,globals:=0,closure:=[],defaults:=.none,kwdefaults:=.none}, #[]⟩
def z0:Obj:=⟨.none,none,.fields #[],#[]⟩
def zp:Obj:=⟨.type "builtin_function_or_method",none,.fields #[.builtin "type.__prepare__",.type "type"],#[]⟩
def zu(a:Nat):Obj:=⟨.type "super",none,.fields #[.ref a,.ref a,.ref a],#[]⟩
def zi(a:Nat):Obj:=⟨.type "builtin_function_or_method",none,.fields #[.builtin "object.__init_subclass__",.ref a],#[]⟩
def zr(a b:Nat)(v:a_):Obj:=⟨.type "frame",none,.plain,#[ar (.ref a),ar (.ref 3),ar (.ref b),none,ar v,none,ar (.ref 0)]⟩
def zk(n:String)(a b c:Nat)(l:Int)(r:Nat)(m:Int)(s:Nat)(x y:Int)(t:Nat):Obj:=⟨.type "code",none,.fields #[zs n a,zs n b,zs "/claim/cut.py" c,.int l 0,.int 0 0,.int 0 0,.int 0 0,.int 0 0,.ref r,.bool dV,.int m 0,.ref s,.none,.none,.none,.none,.int x 0,.int y 0,zs "/claim/cut.py" t],#[]⟩
def zE(n:String)(i x a:Nat)(l ac fl:Int)(md:String)(m t:Nat):List Obj:=[zt #[],z0,zg n n (tp i),zc n n a l ac 0 0 fl (.ref x) 181 (.ref (x+1)) .none .none (.ref (x+2)) t (t+1),⟨.type "function",none,zf n n (tp i) .none .none (zs md m) none (.ref (x+3)) .none,#[]⟩]
def zD(n:String)(i x a:Nat)(l ac fl:Int)(v:Array a_)(md:String)(m t:Nat):List Obj:=[zt #[],z0,zt v,zt #[],zg n n (tp i),zc n n a l ac 0 0 fl (.ref x) 181 (.ref (x+1)) (.ref (x+2)) (.ref (x+3)) (.ref (x+4)) t (t+1),⟨.type "function",none,zf n n (tp i) .none .none (zs md m) none (.ref (x+5)) .none,#[]⟩]
def zC(P:O')(n:String)(a t l:Nat):List Obj:=[zp,⟨(.type "dict"),none,(.dict #[ze P "__module__" (t+5) (zs "tiewebs.errors" 187),ze P "__qualname__" (t+7) (zs n (t+6)),ze P "__firstlineno__" (t+9) (.int l (t+8)),ze P "__static_attributes__" (t+10) (.ref (a+6))] 4),#[]⟩,zt #[],z0,zk n t (t+1) (t+2) l (a+2) 181 (a+3) (t+3) l (t+4),zr (a+4) (a+1) (zs "tiewebs.errors" 187),zt #[],⟨(.type "dict"),none,(.dict #[ze P "__module__" (t+5) (zs "tiewebs.errors" 187),ze P "__firstlineno__" (t+9) (.int l (t+8)),ze P "__static_attributes__" (t+10) (.ref (a+6)),ze P "__doc__" (t+11) .none] 2),#[]⟩,⟨(.type "type"),none,(.cls ⟨(hY n),[(.ref 24)],[(.ref (a+8)),(.ref 24),(.type "ValueError"),(.type "Exception"),(.type "BaseException"),(.type "object")],(a+7),(hY n),b_,[],[],dV,none,dV⟩),#[ar (.ref (a-1)),none,ar (zs n (t-2)),ar (zs n (t+6)),ar (.builtin "ValueError.__new__"),ar (.bool b_)]⟩,zu (a+8),zi (a+8),zt #[(.ref 24)]]
def ml:String:="law_tiewebs_k03_maps_known"
def L1(P:O'):List Obj:=[boot_o_0 P,boot_o_1 P,boot_o_2 P,⟨(.type "dict"),none,(.dict #[ze P "__name__" 165 (zs ml 548),ze P "__doc__" 166 .none,ze P "__package__" 167 .none,ze P "__loader__" 168 (.builtin "__main__.__loader__#opaque"),ze P "__spec__" 169 .none,ze P "__annotations__" 170 (.ref 6),ze P "__builtins__" 171 (.ref 4),ze P "__file__" 173 (zs "/claim/cut.py" 172),ze P "__cached__" 174 .none,ze P "WebError" 206 (.ref 24),ze P "NoWeb" 222 (.ref 37),ze P "NoPlace" 238 (.ref 49),ze P "NoPlaces" 254 (.ref 61),ze P "NoMap" 270 (.ref 73),ze P "NoSharing" 286 (.ref 85),ze P "NoRoot" 302 (.ref 97),ze P "NoNumber" 318 (.ref 109),ze P "NotJoined" 334 (.ref 121),ze P "NoTie" 350 (.ref 133),ze P "NoText" 366 (.ref 145),ze P "NoLine" 382 (.ref 157),ze P "NoDeed" 398 (.ref 169),ze P "TooGreat" 425 (.ref 188),ze P "MOST_PLACES" 429 (.int 14 428),ze P "is_whole" 436 (.ref 197),ze P "is_pair" 443 (.ref 204),ze P "is_place" 451 (.ref 211),ze P "is_tie" 461 (.ref 218),ze P "is_rising" 467 (.ref 223),ze P "is_web" 473 (.ref 228),ze P "need_web" 480 (.ref 235),ze P "need_few_places" 488 (.ref 242),ze P "are_tied" 497 (.ref 249),ze P "degrees" 503 (.ref 254),ze P "MOST_MAPPED" 507 (.int 7 506),ze P "need_mapped" 515 (.ref 261),ze P "goes_on" 521 (.ref 266),ze P "map_holds" 527 (.ref 271),ze P "first_map_from" 539 (.ref 278),ze P "map_to" 547 (.ref 285),ze P "_law_cell_at" 557 (.ref 292),ze P "_law_state" 566 (.ref 299),ze P "_law_take" 576 (.ref 306),ze P "_law_pairs" 582 (.ref 311),ze P "_law_mixed_row" 592 (.ref 318),ze P "_law_web" 598 (.ref 323),ze P "_law_great_web" 610 (.ref 330),ze P "_law_named" 616 (.ref 335),ze P "_law_tied" 625 (.ref 342),ze P "_law_whole" 632 (.ref 349),ze P "_law_bad_web" 640 (.ref 356),ze P "_law_same" 646 (.ref 361),ze P "_law_refused" 652 (.ref 366),ze P "_law_is_map" 658 (.ref 371),ze P "_law_first" 664 (.ref 376),ze P "_law_bent" 676 (.ref 383),ze P "_law_pair" 687 (.ref 390),ze P "law" 693 (.ref 395)] 58),#[]⟩,boot_o_4 P,boot_o_5 P,boot_o_6 P,boot_o_7 P,boot_o_8 P,boot_o_9 P,boot_o_10 P,zt #[],⟨.none,none,(.fields #[(.int 2 0),(.int 0 0),(.ref 20),(.int 4 0),(.int 0 0),(.ref 33),(.int 6 0),(.int 0 0),(.ref 45),(.int 8 0),(.int 0 0),(.ref 57),(.int 10 0),(.int 0 0),(.ref 69),(.int 12 0),(.int 0 0),(.ref 81),(.int 14 0),(.int 0 0),(.ref 93),(.int 16 0),(.int 0 0),(.ref 105),(.int 18 0),(.int 0 0),(.ref 117),(.int 20 0),(.int 0 0),(.ref 129),(.int 22 0),(.int 0 0),(.ref 141),(.int 24 0),(.int 0 0),(.ref 153),(.int 26 0),(.int 0 0),(.ref 165),(.int 28 0),(.int 0 0),(.ref 177),(.int 35 0),(.int 0 0),(.ref 196),(.int 37 0),(.int 0 0),(.ref 203),(.int 39 0),(.int 0 0),(.ref 210),(.int 41 0),(.int 0 0),(.ref 217),(.int 46 0),(.int 0 0),(.ref 222),(.int 48 0),(.int 0 0),(.ref 227),(.int 55 0),(.int 0 0),(.ref 234),(.int 58 0),(.int 0 0),(.ref 241),(.int 62 0),(.int 0 0),(.ref 248),(.int 64 0),(.int 0 0),(.ref 253),(.int 70 0),(.int 0 0),(.ref 260),(.int 75 0),(.int 0 0),(.ref 265),(.int 80 0),(.int 0 0),(.ref 270),(.int 88 0),(.int 0 0),(.ref 277),(.int 98 0),(.int 0 0),(.ref 284),(.int 104 0),(.int 0 0),(.ref 291),(.int 108 0),(.int 0 0),(.ref 298),(.int 113 0),(.int 0 0),(.ref 305),(.int 122 0),(.int 0 0),(.ref 310),(.int 127 0),(.int 0 0),(.ref 317),(.int 133 0),(.int 0 0),(.ref 322),(.int 147 0),(.int 0 0),(.ref 329),(.int 155 0),(.int 0 0),(.ref 334),(.int 157 0),(.int 0 0),(.ref 341),(.int 159 0),(.int 0 0),(.ref 348),(.int 161 0),(.int 0 0),(.ref 355),(.int 166 0),(.int 0 0),(.ref 360),(.int 174 0),(.int 0 0),(.ref 365),(.int 189 0),(.int 0 0),(.ref 370),(.int 198 0),(.int 0 0),(.ref 375),(.int 212 0),(.int 0 0),(.ref 382),(.int 218 0),(.int 0 0),(.ref 389),(.int 228 0),(.int 0 0),(.ref 394)]),#[]⟩,⟨(.type "code"),none,(.fields #[(zs "<module>" 182),(zs "<module>" 183),(zs "/claim/cut.py" 184),(.int 1 0),(.int 0 0),(.int 0 0),(.int 0 0),(.int 0 0),(.ref 11),(.bool dV),(.int 181 0),(.ref 12),.none,.none,.none,.none,(.int 185 0),(.int 1 0),(zs "/claim/cut.py" 186)]),#[]⟩,zr 13 3 (zs "__main__" 164),zt #[(.type "ValueError")],zp,⟨(.type "dict"),none,(.dict #[ze P "__module__" 196 (zs "tiewebs.errors" 187),ze P "__qualname__" 198 (zs "WebError" 197),ze P "__firstlineno__" 200 (.int 2 199),ze P "__static_attributes__" 201 (.ref 22)] 4),#[]⟩,zt #[],z0,zk "WebError" 191 192 193 2 18 181 19 194 2 195,zr 20 17 (zs "tiewebs.errors" 187),zt #[],⟨(.type "dict"),none,(.dict #[ze P "__module__" 196 (zs "tiewebs.errors" 187),ze P "__firstlineno__" 200 (.int 2 199),ze P "__static_attributes__" 201 (.ref 22),ze P "__weakref__" 203 (.ref 25),ze P "__doc__" 204 .none] 3),#[]⟩,⟨(.type "type"),none,(.cls ⟨(hY "WebError"),[(.type "ValueError")],[(.ref 24),(.type "ValueError"),(.type "Exception"),(.type "BaseException"),(.type "object")],23,(hY "WebError"),b_,[],[(.ref 37),(.ref 49),(.ref 61),(.ref 73),(.ref 85),(.ref 97),(.ref 109),(.ref 121),(.ref 133),(.ref 145),(.ref 157),(.ref 169),(.ref 188)],dV,none,dV⟩),#[ar (.ref 15),none,ar (zs "WebError" 189),ar (zs "WebError" 197),ar (.builtin "ValueError.__new__"),ar (.bool b_)]⟩,⟨(.type "getset_descriptor"),none,(.fields #[(zs "__weakref__" 202),(.ref 24),(.builtin "ExceptionGroup.__weakref__"),.none]),#[]⟩,zu 24,zi 24,zt #[(.ref 24)]]++zC P "NoWeb" 29 209 4++zC P "NoPlace" 41 225 6++zC P "NoPlaces" 53 241 8++zC P "NoMap" 65 257 10++zC P "NoSharing" 77 273 12++zC P "NoRoot" 89 289 14++zC P "NoNumber" 101 305 16++zC P "NotJoined" 113 321 18++zC P "NoTie" 125 337 20++zC P "NoText" 137 353 22++zC P "NoLine" 149 369 24++zC P "NoDeed" 161 385 26++[zp,⟨(.type "dict"),none,(.dict #[ze P "__module__" 406 (zs "tiewebs.errors" 187),ze P "__qualname__" 408 (zs "TooGreat" 407),ze P "__firstlineno__" 410 (.int 28 409),ze P "__init__" 419 (.ref 185),ze P "__static_attributes__" 422 (.ref 186)] 5),#[]⟩,zt #[],⟨.none,none,(.fields #[(.int 30 0),(.int 4 0),(.ref 184)]),#[]⟩,zk "TooGreat" 401 402 403 28 175 181 176 404 28 405,zr 177 174 (zs "tiewebs.errors" 187),zt #[],z0,zt #[(zs "self" 414),(zs "many" 415),(zs "most" 416)],zt #[],zg "__init__" "TooGreat.__init__" (iC (tp 14)),zc "__init__" "TooGreat.__init__" 411 30 3 0 0 3 (.ref 179) 181 (.ref 180) (.ref 181) (.ref 182) (.ref 183) 417 418,⟨.type "function",none,(zf "__init__" "TooGreat.__init__" (iC (tp 14)) .none .none (zs "tiewebs.errors" 187) none (.ref 184) .none),#[]⟩,zt #[(zs "many" 420),(zs "most" 421)],⟨(.type "dict"),none,(.dict #[ze P "__module__" 406 (zs "tiewebs.errors" 187),ze P "__firstlineno__" 410 (.int 28 409),ze P "__init__" 419 (.ref 185),ze P "__static_attributes__" 422 (.ref 186),ze P "__doc__" 423 .none] 2),#[]⟩,⟨(.type "type"),none,(.cls ⟨(hY "TooGreat"),[(.ref 24)],[(.ref 188),(.ref 24),(.type "ValueError"),(.type "Exception"),(.type "BaseException"),(.type "object")],187,(hY "TooGreat"),b_,[],[],dV,none,dV⟩),#[ar (.ref 172),none,ar (zs "TooGreat" 399),ar (zs "TooGreat" 407),ar (.builtin "ValueError.__new__"),ar (.bool b_)]⟩,zu 188,zi 188]++zD "is_whole" 17 191 430 35 1 3 #[zs "thing" 433] "tiewebs.webs" 426 434++zD "is_pair" 18 198 437 37 1 3 #[zs "thing" 440] "tiewebs.webs" 426 441++zD "is_place" 19 205 444 39 2 3 #[zs "many" 447,zs "thing" 448] "tiewebs.webs" 426 449++zD "is_tie" 20 212 452 41 2 3 #[zs "many" 455,zs "thing" 456,zs "low" 457,zs "high" 458] "tiewebs.webs" 426 459++zE "is_rising" 21 219 462 46 1 3 "tiewebs.webs" 426 465++zE "is_web" 22 224 468 48 1 3 "tiewebs.webs" 426 471++zD "need_web" 23 229 474 55 1 3 #[zs "thing" 477] "tiewebs.webs" 426 478++zD "need_few_places" 24 236 481 58 2 3 #[zs "web" 484,zs "most" 485] "tiewebs.webs" 426 486++zD "are_tied" 25 243 489 62 3 3 #[zs "web" 492,zs "one" 493,zs "other" 494] "tiewebs.webs" 426 495++zE "degrees" 26 250 498 64 1 3 "tiewebs.webs" 426 501++zD "need_mapped" 29 255 508 70 2 3 #[zs "one" 511,zs "other" 512] "tiewebs.maps" 504 513++zE "goes_on" 30 262 516 75 4 3 "tiewebs.maps" 504 519++zE "map_holds" 31 267 522 80 3 3 "tiewebs.maps" 504 525++zD "first_map_from" 32 272 528 88 3 3 #[zs "one" 531,zs "other" 532,zs "start" 533,zs "many" 534,zs "place" 535,zs "found" 536] "tiewebs.maps" 504 537++zD "map_to" 33 279 540 98 2 3 #[zs "one" 543,zs "other" 544] "tiewebs.maps" 504 545++zD "_law_cell_at" 35 286 550 104 2 3 #[zs "_law_script" 553,zs "_law_k" 554] ml 548 555++zD "_law_state" 36 293 558 108 2 3 #[zs "_law_script" 561,zs "_law_k" 562,zs "_law_cell" 563] ml 548 564++zD "_law_take" 37 300 567 113 2 3 #[zs "_law_state_here" 570,zs "_law_many" 571,zs "_law_found" 572,zs "_law_stirred" 573] ml 548 574++zE "_law_pairs" 38 307 577 122 1 3 ml 548 580++zD "_law_mixed_row" 39 312 583 127 2 3 #[zs "_law_state_here" 586,zs "_law_things" 587,zs "_law_left" 588,zs "_law_found" 589] ml 548 590++zE "_law_web" 40 319 593 133 2 3 ml 548 596++zD "_law_great_web" 41 324 599 147 1 3 #[zs "_law_state_here" 602,zs "_law_many" 603,zs "_law_ties" 604,zs "_law_turn" 605,zs "_law_one" 606,zs "_law_other" 607] ml 548 608++zE "_law_named" 42 331 611 155 2 3 ml 548 614++zD "_law_tied" 43 336 617 157 3 3 #[zs "_law_web_here" 620,zs "_law_one" 621,zs "_law_other" 622] ml 548 623++zD "_law_whole" 44 343 626 159 1 3 #[zs "_law_thing" 629] ml 548 630++zD "_law_bad_web" 45 350 633 161 1 3 #[zs "_law_state_here" 636,zs "_law_some" 637] ml 548 638++zE "_law_same" 46 357 641 166 2 3 ml 548 644++zE "_law_refused" 47 362 647 174 1 3 ml 548 650++zE "_law_is_map" 48 367 653 189 3 3 ml 548 656++zE "_law_first" 49 372 659 198 2 3 ml 548 662++zD "_law_bent" 50 377 665 212 2 3 #[zs "_law_state_here" 668,zs "_law_row" 669,zs "_law_at" 670,zs "_law_to" 671,zs "_law_odd" 672,zs "_law_some" 673] ml 548 674++zD "_law_pair" 51 384 677 218 1 3 #[zs "_law_state_here" 680,zs "_law_most" 681,zs "_law_one" 682,zs "_law_way" 683,zs "_law_other" 684] ml 548 685++zE "law" 52 391 688 228 1 3 ml 548 691
def Lb(P:O'):List Obj:=[boot_o_0 P,boot_o_1 P,boot_o_2 P,boot_o_3 P,boot_o_4 P,boot_o_5 P,boot_o_6 P,boot_o_7 P,boot_o_8 P,boot_o_9 P,boot_o_10 P,zt #[],z0,⟨(.type "code"),none,(.fields #[(zs "<module>" 182),(zs "<module>" 183),(zs "/claim/cut.py" 184),(.int 1 0),(.int 0 0),(.int 0 0),(.int 0 0),(.int 0 0),(.ref 11),(.bool dV),(.int 181 0),(.ref 12),.none,.none,.none,.none,(.int 185 0),(.int 1 0),(zs "/claim/cut.py" 186)]),#[]⟩,zr 13 3 (zs "__main__" 164)]
def as0:List Addr:=[2,3,15,22,23,24,25,28,35,36,37,40,47,48,49,52,59,60,61,64,71,72,73,76,83,84,85,88,95,96,97,100,107,108,109,112,119,120,121,124,131,132,133,136,143,144,145,148,155,156,157,160,167,168,169,172,179,181,182,184,185,186,187,188,191,193,194,196,197,198,200,201,203,204,205,207,208,210,211,212,214,215,217,218,219,222,223,224,227,228,229,231,232,234,235,236,238,239,241,242,243,245,246,248,249,250,253,254,255,257,258,260,261,262,265,266,267,270,271,272,274,275,277,278,279,281,282,284,285,286,288,289,291,292,293,295,296,298,299,300,302,303,305,306,307,310,311,312,314,315,317,318,319,322,323,324,326,327,329,330,331,334,335,336,338,339,341,342,343,345,346,348,349,350,352,353,355,356,357,360,361,362,365,366,367,370,371,372,375,376,377,379,380,382,383,384,386,387,389,390,391,394,395]
def ts0:List Addr:=[392]
def vq:Program:={PySem.Challenge.pw_tiewebs_k03_maps_known with main:={PySem.Challenge.pw_tiewebs_k03_maps_known.main with body:=[tp 1,tp 2,tp 3,tp 4,tp 5,tp 6,tp 7,tp 8,tp 9,tp 10,tp 11,tp 12,tp 13,tp 14,tp 16,tp 17,tp 18,tp 19,tp 20,tp 21,tp 22,tp 23,tp 24,tp 25,tp 26,tp 28,tp 29,tp 30,tp 31,tp 32,tp 33,tp 35,tp 36,tp 37,tp 38,tp 39,tp 40,tp 41,tp 42,tp 43,tp 44,tp 45,tp 46,tp 47,tp 48,tp 49,tp 50,tp 51,tp 52]}}
def alt:Bool->List Obj->List Obj
 |_,[]=>[]
 |true,a::r=>a::alt dV r
 |false,_::r=>alt b_ r
def toT:Nat->List Obj->BT
 |0,_=>.nil
 |_+1,[]=>.nil
 |f+1,o::r=>.node o (toT f (alt b_ r)) (toT f (alt dV r))
def pick:Nat->List dt->List Obj->d_
 |i,as,o::os=>match as with
  |a::r=>if Nat.beq i a then (a,o)::pick (i+1) r os else pick (i+1) (a::r) os
  |[]=>[]
 |_,_,[]=>[]
def K0(P:O'):W.Frag:=pick 0 as0 (L1 P)
theorem as0_eq:∀P,as0=(K0 P).map (·.1):=fun _=>by kernel_rfl
abbrev pw:Program:=PySem.Challenge.pw_tiewebs_k03_maps_known
abbrev Xt0(s:c_):Bool:=xlAt vq [] s && recOk (RowW.records (OpenRow.toRowW (OpenLaw.row PySem.Challenge.rw_tiewebs_k03_maps_known))) s
def lf:Life:={}
def en:Env:={scope:=pw.main.scope,locals:=mainNs,globals:=mainNs,cells:=[],code:=(.ref 13),frame:=ar 14}
abbrev cE:Code:=.body (I_ pw) en
abbrev Bf:List Frame:=[topFrame ⟨0,0,0,0⟩]
abbrev S0(w:fg)(os:QV):Shared:=⟨C_ w.params,z3 [],boot_drawn,boot_toks,os⟩
abbrev Sb(w:fg)(os:QV):SharedT:=⟨toT 12 (Lb w.params),15,lf,z3 [],⟨0,0,0,0⟩,187,os⟩
abbrev Sm(w:fg)(os:QV):SharedT:=⟨toT 12 (L1 w.params),396,lf,z3 [],⟨0,0,0,0⟩,694,os⟩
abbrev Sf(w:fg)(os:QV):Shared:=⟨⟨z3 (L1 w.params),lf⟩,z3 [],⟨0,0,0,0⟩,694,os⟩
theorem KJ:∀w,(fun os=>topGo J_ pw w 11 (ar (.ref 6)) 12 (S0 w os) (topStub pw))=fun os=>ar ((Sb w os).abs,⟨denote J_ cE,cE,⟨0,0,0,0⟩,Bf⟩):=fun w=>by kernel_rfl
theorem Gu:∀w,(fun os=>segRun J_ pw w 11 (ar (.ref 6)) 1 1 (Sb w os).abs (blockOf (I_ pw) en cE ⟨0,0,0,0⟩ Bf))=fun os=>ar (.next,(Sb w os).abs,cE,⟨0,0,0,0⟩):=fun w=>by kernel_rfl
theorem IW:∀w,(fun os=>segRunT J_ pw w 11 (ar (.ref 6)) 1 4002 (Sb w os) (piecesOf (I_ pw) en cE ⟨0,0,0,0⟩ Bf))=fun os=>ar (.next,Sm w os,cE,⟨228,0,251,74⟩):=fun w=>by kernel_rfl
theorem KL:∀w,(fun os=>topRun J_ pw w 11 (ar (.ref 6)) 2 (Sm w os).abs ⟨doneF .next,cE,⟨228,0,251,74⟩,Bf⟩)=fun os=>ar (Sf w os):=fun w=>by kernel_rfl
theorem KM(w:fg)(os:QV):topRun J_ pw w 11 (ar (.ref 6)) (12+(1+(4002+2))) (S0 w os) (topStub pw)=ar (Sf w os):=
 go_top (MT (KJ w) os) (piece_block (MT (Gu w) os) (by
  have:=piece_app (rest:=[]) (segRun_of (MT (IW w) os)) (piece_nil (MT (KL w) os));rw[M3]at this;exact this))
theorem IX:∀w:fg,((C_ w.params).isNs g_ && (z3 []:Array P_).size==0,(C_ w.params).objs.size,(C_ w.params).nsMap g_ "__annotations__")=(b_,11,(ar (.ref 6))):=fun w=>by kernel_rfl
theorem IY:∀w os,(staticsOk (k7 pw.main.body) (C_ w.params) (Sf w os).heap && namesBound pw (Sf w os).heap && gensDone (Sf w os) && laidKept (C_ w.params) (Sf w os).heap)=true:=fun w os=>by kernel_rfl
theorem KN:∀w os,(wN vq [] (k7 pw.main.body) Xt0 b_ (Sf w os)).1=(w7 vq []).1:=fun w os=>by kernel_rfl
theorem KO:∀w os,(wN vq [] (k7 pw.main.body) Xt0 b_ (Sf w os)).2.1=(w7 vq []).2.1:=fun w os=>by kernel_rfl
theorem KP:∀w os,(wN vq [] (k7 pw.main.body) Xt0 b_ (Sf w os)).2.2.1=(w7 vq []).2.2.1:=fun w os=>by kernel_rfl
theorem KQ:∀w os,(wN vq [] (k7 pw.main.body) Xt0 b_ (Sf w os)).2.2.2.1=(w7 vq []).2.2.2.1:=fun w os=>by kernel_rfl
theorem KR:∀w os,(wN vq [] (k7 pw.main.body) Xt0 b_ (Sf w os)).2.2.2.2.1=(w7 vq []).2.2.2.2.1:=fun w os=>by kernel_rfl
theorem KS:∀w os,(wN vq [] (k7 pw.main.body) Xt0 b_ (Sf w os)).2.2.2.2.2.1=(w7 vq []).2.2.2.2.2.1:=fun w os=>by kernel_rfl
theorem KU:∀w os,(wN vq [] (k7 pw.main.body) Xt0 b_ (Sf w os)).2.2.2.2.2.2.1=(w7 vq []).2.2.2.2.2.2.1:=fun w os=>by kernel_rfl
theorem KW:∀w os,(wN vq [] (k7 pw.main.body) Xt0 b_ (Sf w os)).2.2.2.2.2.2.2.1=(w7 vq []).2.2.2.2.2.2.2.1:=fun w os=>by kernel_rfl
theorem KY:∀w os,(wN vq [] (k7 pw.main.body) Xt0 b_ (Sf w os)).2.2.2.2.2.2.2.2=(w7 vq []).2.2.2.2.2.2.2.2:=fun w os=>by kernel_rfl
theorem IZ:∀w os,Sh (Qd K0 as0 as0_eq ts0) (Sf w os)=Si (Qd K0 as0 as0_eq ts0) w:=fun w os=>by kernel_rfl
theorem I0(w:fg)(os:QV):wN vq [] (k7 pw.main.body) Xt0 b_ (Sf w os)=w7 vq []:=Pd (KN w os) (Pd (KO w os) (Pd (KP w os) (Pd (KQ w os) (Pd (KR w os) (Pd (KS w os) (Pd (KU w os) (Pd (KW w os) (KY w os))))))))
theorem left0:LeftO (OpenLaw.row PySem.Challenge.rw_tiewebs_k03_maps_known).prog vq [] Xt0 (Sh (Qd K0 as0 as0_eq ts0)) (Si (Qd K0 as0 as0_eq ts0)) 8128:=
 LeftO.of_pieces (p:=pw) (H₀:=C_) (H₁:=fun P=>⟨z3 (L1 P),lf⟩) (gs₀:=z3 []) (gs₁:=z3 []) (d₀:=boot_drawn) (d₁:=⟨0,0,0,0⟩) (k₀:=boot_toks) (k₁:=694) (M:=12+(1+(4002+2))) (boot_open (p:=pw) (by kernel_rfl) (by decide) (fun s=>by kernel_rfl)) IX KM (by decide) fun w=>funext fun os=>Pd (IY w os) (Pd (I0 w os) (IZ w os))
end KH
section
namespace L2
open PySem PySem.Spec PyProof.Rows
abbrev Key:=Sum Int Str
def FU:Key->a_->Bool
 | .inl k,v=>Value.isInt k v
 | .inr x,v=>Value.isStrOf x v
def KZ(w:fg):Key->Int
 | .inl k=>hashInt k
 | .inr x=>hashStr w x
theorem dh:∀{k:Key} {v:a_},FU k v=b_->(∃i t,k=QW i/\v=pd i t)\/(∃x t,k=QX x/\v=J' x t)
 | .inl i,v,h=>by
  obtain⟨t,e⟩:=Value.isInt_shape (k:=i) (v:=v) h;exact .inl ⟨i,t,rfl,e⟩
 | .inr x,v,h=>by
  obtain⟨t,e⟩:=Value.isStrOf_shape (x:=x) (v:=v) h;exact .inr ⟨x,t,rfl,e⟩
theorem Gv(a b:Int):decide ((QW a:Key)=QW b)=(a==b):=by
 by_cases e:a=b
 ·subst e;simp
 ·have h:¬ (QW a:Key)=QW b:=fun q=>e (Sum.inl.inj q);rw[MP h];exact(beq_eq_false_iff_ne.mpr e).symm
theorem Gw(a b:Str):decide ((QX a:Key)=QX b)=decide (a=b):=by
 by_cases e:a=b
 ·subst e;simp
 ·have h:¬ (QX a:Key)=QX b:=fun q=>e (Sum.inr.inj q);rw[MP h,MP e]
theorem Gx(a:Int)(b:Str):decide ((QW a:Key)=QX b)=false:=MP (fun q=>nomatch q)
theorem Gy(a:Str)(b:Int):decide ((QX a:Key)=QW b)=false:=MP (fun q=>nomatch q)
def yC(prog:eM)(w:fg):PySem.KeyKind prog w Key where
 is:=FU
 hash:=KZ w
 inj:=fun v a b ha hb=>by
  rcases dh ha with⟨i,t,rfl,rfl⟩|⟨x,t,rfl,rfl⟩
  ·rcases dh hb with⟨j,u,rfl,e⟩|⟨y,u,rfl,e⟩
   ·injection e with e1 _;rw[e1]
   ·exact nomatch e
  ·rcases dh hb with⟨j,u,rfl,e⟩|⟨y,u,rfl,e⟩
   ·exact nomatch e
   ·injection e with e1 _;rw[e1]
 byValue:=fun k v h=>by
  rcases dh h with⟨i,t,rfl,rfl⟩|⟨x,t,rfl,rfl⟩<;>rfl
 pyHash:=fun hv h=>by
  rcases dh hv with⟨i,t,rfl,rfl⟩|⟨x,t,rfl,rfl⟩
  ·exact wpAny_pyHash_int h
  ·exact wpAny_pyHash_str h
 eqBool:=fun hu hv h=>by
  rcases dh hu with⟨i,t,rfl,rfl⟩|⟨x,t,rfl,rfl⟩
  ·rcases dh hv with⟨j,u,rfl,rfl⟩|⟨y,u,rfl,rfl⟩
   ·rw[Gv]at h;exact Qu h
   ·rw[Gx]at h;exact SeqAt.EqAt.int_str i t y u _ _ _ _ h
  ·rcases dh hv with⟨j,u,rfl,rfl⟩|⟨y,u,rfl,rfl⟩
   ·rw[Gy]at h;exact SeqAt.EqAt.str_int x t j u _ _ _ _ h
   ·rw[Gw]at h;exact wpAny_eqBool_str h
 «strs»:=fun k x t v h=>by
  rcases dh h with⟨i,u,rfl,e⟩|⟨y,u,rfl,e⟩
  ·exact nomatch e
  ·injection e with e1 _;subst e1;cases v<;>rfl
end L2
namespace L2
open PySem PySem.Spec PyProof.Rows
inductive V where
 |non|bl (b:Bool)|int (i:Int)|str (x:Str)|byt (b:Array UInt8)|flt (b:UInt64)|ref (a:dt)|ty (n:String)
 deriving DecidableEq
def RelV:V->a_->Prop
 | .non,u=>u=hO
 | .bl b,u=>u=t6 b
 | .int i,u=>∃t,u=pd i t
 | .str x,u=>∃t,u=J' x t
 | .byt b,u=>∃t,u=Value.bytes b t
 | .flt b,u=>∃t,u=Qn b t
 | .ref a,u=>u=ey a
 | .ty n,u=>u=t7 n
abbrev bw:List V->List a_->Prop:=Paired RelV
theorem bw.length{xs:List V}{us:List a_}(r:bw xs us):xs.length=us.length:=Paired.length r
theorem bw.get:∀{xs:List V} {us:List a_} {i:Nat} {x:V},bw xs us->xs[i]? =ar x->∃u,us[i]? =ar u/\RelV x u
 |_,_,_,_,.nil,e=>by simp at e
 |_,_,0,_,.cons r _,e=>by simp at e;subst e;exact⟨_,rfl,r⟩
 |_,_,i+1,x,.cons _ t,e=>by
  obtain⟨u,Z,Y⟩:=bw.get (i:=i) (x:=x) t (by simpa using e)
  exact⟨u,by simpa using Z,Y⟩
theorem bw.set(r:RelV x u):∀{xs:List V} {us:List a_} (i:Nat),bw xs us->bw (xs.set i x) (us.set i u)
 |_,_,_,.nil=>.nil
 |_,_,0,.cons _ t=>.cons r t
 |_,_,i+1,.cons q t=>.cons q (bw.set r i t)
theorem bw.append:∀{xs ys:List V} {us ws:List a_},bw xs us->bw ys ws->bw (xs++ys) (us++ws)
 |_,_,_,_,.nil,s=>s
 |_,_,_,_,.cons r t,s=>.cons r (bw.append t s)
theorem bw.take:∀{xs:List V} {us:List a_} (n:Nat),bw xs us->bw (xs.take n) (us.take n)
 |_,_,0,_=>.nil
 |_,_,_+1,.nil=>.nil
 |_,_,n+1,.cons r t=>.cons r (bw.take n t)
theorem bw.drop:∀{xs:List V} {us:List a_} (n:Nat),bw xs us->bw (xs.drop n) (us.drop n)
 |_,_,0,r=>r
 |_,_,_+1,.nil=>.nil
 |_,_,n+1,.cons _ t=>bw.drop n t
def tU:Option V->Option a_->Prop
 |some v,ar u=>RelV v u
 |none,none=>True
 |_,_=>False
def KV{κ:Type}:List (κ×V)->List (κ×a_)->Prop:=Paired fun(p:κ×V) (q:κ×a_)=>p.1=q.1/\RelV p.2 q.2
def kV:Key->V
 | .inl i=>.int i
 | .inr x=>.str x
inductive HO where
 |lst (xs:List V)
 |tup (xs:List V)
 |dK (kvs:List (Key×V))|dT (kvs:List (List Key×V))
 |set (S:Int->Bool) (n:Nat)
 |ins (C dx:dt) (fs:List (Str×V))
 |own (x:dt)
 |xd (fs:List (Str×V))
 |met (f x:dt)
 |rng (lo hi:Int)
 |frz (o:Obj) (u:HO)
 |tbl (ps:Array a_)
 |ext (φ:gd->Prop)
abbrev Hp:=dt->Option HO
def upd(H:Hp)(a:dt)(o:HO):Hp:=fun b=>if b=a then ar o else H b
theorem aX:upd H a o a=ar o:=by unfold upd;rw[if_pos rfl]
theorem aK{H:Hp}(h:b≠a):upd H a o b=H b:=by unfold upd;rw[if_neg h]
theorem tV:upd (upd H a o) a u=upd H a u:=by
 funext b;unfold upd;split<;>rfl
theorem aR{H:Hp}(h:H a=ar o)(h':H b=none):a≠b:=by
 intro e;subst e;rw[h]at h';cases h'
section
variable (P:eM)(w:fg)
def bB(H:Hp)(h:gd)(a:dt):HO->Prop
 | .lst xs=>xs.length<=sizeLine/\∃(its:List a_) (n:Nat),bw xs its/\h.get? a=ar {cls:=.type "list",data:=.seq its.toArray n}
 | .tup xs=>xs.length<=sizeLine/\∃its:List a_,bw xs its/\R3 h a its.toArray
 | .dK kvs=>kvs.length<=sizeLine/\(a==RL)=dV/\∃vs,KV kvs vs/\h.DictOf (yC P w) a vs
 | .dT kvs=>kvs.length<=sizeLine/\(a==RL)=dV/\∃xs:List (List Key×dt×a_),
   Paired (fun(p:List Key×V) (q:List Key×dt×a_)=>p.1=q.1/\H q.2.1=ar (.tup (p.1.map kV))/\RelV p.2 q.2.2) kvs xs/\
   ∃o es ep,h.get? a=ar o/\o.ExactDict/\o.data= .dict es ep/\es.toList=xs.map (entryOfKey (tupleKind (yC P w)))/\(xs.map (·.1)).Nodup
 | .set S n=>h.SetOf (nC P w) a S n
 | .ins C dx fs=>H dx=ar (.own a)/\fs.length<=1000/\dx≠a/\h.get? a=ar (R4 C dx)/\
   ∃mA,h.Ns1 dx mA/\(∀f,tU (fs.lookup f) (mA f))/\PySem.Within mA (fs.map (·.1))
 | .own _=>∃o,h.get? a=ar o
 | .xd fs=>∃mA,h.Ns1 a mA/\∀f,tU (fs.lookup f) (mA f)
 | .rng lo hi=>∃t u v,h.get? a=ar {cls:=.type "range",data:=.fields #[.int lo t,.int hi u,.int 1 v]}
 | .frz o u=>h.get? a=ar o/\bB H h a u
 | .tbl ps=>h.get? a=ar {cls:=.none,data:=.fields ps}
 | .met f x=>h.get? a=ar (RB (.ref f) (.ref x))
 | .ext φ=>φ h/\(∃o,h.get? a=ar o)/\∀h1 h2:gd,φ h1->(∀o,h1.get? a=ar o->h2.get? a=ar o)->φ h2
def gG(H:Hp)(h:gd):Prop:=∀a o,H a=ar o->bB P w H h a o
end
section
variable {P:eM}{w:fg}{H H':Hp}{h h':gd}{a:dt}{o:HO}
theorem bB.lt(x:bB P w H h a o):a<h.objs.size:=by
 cases o with
 |lst xs=>obtain⟨_,_,_,_,e⟩:=x;exact Mx e
 |tup xs=>obtain⟨_,_,_,p⟩:=x;exact p.lt
 |dK kvs=>obtain⟨_,_,_,_,o,_,_,e,_⟩:=x;exact Mx e
 |dT kvs=>obtain⟨_,_,_,_,o,_,_,e,_⟩:=x;exact Mx e
 |set S n=>obtain⟨o,_,_,_,e,_⟩:=x;exact Mx e
 |ins C dx fs=>obtain⟨_,_,_,e,_⟩:=x;exact Mx e
 |own y=>obtain⟨_,e⟩:=x;exact Mx e
 |xd fs=>obtain⟨_,⟨_,_,_,e,_⟩,_⟩:=x;exact Mx e
 |rng lo hi=>obtain⟨_,_,_,e⟩:=x;exact Mx e
 |frz ob u=>obtain⟨e,_⟩:=x;exact Mx e
 |tbl ps=>exact Mx (show h.get? a=ar _ from x)
 |met f y=>exact Mx (show h.get? a=ar _ from x)
 |ext φ=>obtain⟨_,⟨_,e⟩,_⟩:=x;exact Mx e
theorem Paired.mapP{Z Y:Type}{F G:Z->Y->Prop}:∀{l₁:List Z} {l₂:List Y},Paired F l₁ l₂->(∀a b,F a b->G a b)->Paired G l₁ l₂
 |_,_,.nil,_=>.nil
 |_,_,.cons r t,f=>.cons (f _ _ r) (Paired.mapP t f)
theorem bB.stay(x:bB P w H h a o)(k:∀b u,(b=a\/H b=ar (.own a))->h.get? b=ar u->h'.get? b=ar u)
  (Y:∀b,H b=ar (.own a)->H' b=ar (.own a)) (X:∀b xs,H b=ar (.tup xs)->H' b=ar (.tup xs)):bB P w H' h' a o:=by
 induction o with
 |lst xs=>obtain⟨z,its,n,r,e⟩:=x;exact⟨z,its,n,r,k _ _ (.inl rfl) e⟩
 |tup xs=>obtain⟨z,its,r,Z,e,c⟩:=x;exact⟨z,its,r,Z,k _ _ (.inl rfl) e,c⟩
 |dK kvs=>obtain⟨z,y,vs,r,Z,es,ep,e,c⟩:=x;exact⟨z,y,vs,r,Z,es,ep,k _ _ (.inl rfl) e,c⟩
 |dT kvs=>
  obtain⟨z,y,xs,r,Z,es,ep,e,c⟩:=x;exact⟨z,y,xs,Paired.mapP r fun p q z=>⟨z.1,X _ _ z.2.1,z.2.2⟩,Z,es,ep,k _ _ (.inl rfl) e,c⟩
 |set S n=>obtain⟨Z,es,ep,t,e,c⟩:=x;exact⟨Z,es,ep,t,k _ _ (.inl rfl) e,c⟩
 |ins C dx fs=>
  obtain⟨d,z,ne,e,mA,⟨od,es,ep,e2,c⟩,r⟩:=x;exact⟨Y _ d,z,ne,k _ _ (.inl rfl) e,mA,⟨od,es,ep,k _ _ (.inr d) e2,c⟩,r⟩
 |own y=>obtain⟨Z,e⟩:=x;exact⟨Z,k _ _ (.inl rfl) e⟩
 |xd fs=>obtain⟨mA,⟨od,es,ep,e,c⟩,r⟩:=x;exact⟨mA,⟨od,es,ep,k _ _ (.inl rfl) e,c⟩,r⟩
 |rng lo hi=>obtain⟨t,u,v,e⟩:=x;exact⟨t,u,v,k _ _ (.inl rfl) e⟩
 |frz Z u ih=>obtain⟨e,q⟩:=x;exact⟨k _ _ (.inl rfl) e,ih q⟩
 |tbl ps=>
  have e:h.get? a=ar {cls:=.none,data:=.fields ps}:=x;show h'.get? a=ar {cls:=.none,data:=.fields ps};exact k a _ (.inl rfl) e
 |met f y=>
  have e:h.get? a=ar (RB (.ref f) (.ref y)):=x;show h'.get? a=ar (RB (.ref f) (.ref y));exact k a _ (.inl rfl) e
 |ext φ=>obtain⟨p,⟨o,e⟩,st⟩:=x;exact⟨st _ _ p fun o q=>k _ _ (.inl rfl) q,⟨o,k _ _ (.inl rfl) e⟩,st⟩
theorem gG.lt(x:gG P w H h)(e:H a=ar o):a<h.objs.size:=(x a o e).lt
theorem gG.fresh(x:gG P w H h)(e:h.objs.size<=a):H a=none:=by
 cases q:H a with
 |none=>rfl
 |some u=>exact absurd (MG (x.lt q) e) (NW _)
theorem gG.kept(x:gG P w H h)(k:∀b u,h.get? b=ar u->h'.get? b=ar u):gG P w H h':=fun a o e=>
 (x a o e).stay (fun b u _ q=>k b u q) (fun _ q=>q) fun _ _ q=>q
theorem gG.laid(x:gG P w H h)(k:∀b u,h.get? b=ar u->h'.get? b=ar u)(X:h.objs.size<=a)(Z:bB P w (upd H a o) h' a o):gG P w (upd H a o) h':=fun b u e=>by
 have Y:=x.fresh X;by_cases hb:b=a
 ·subst hb;rw[aX]at e;cases e;exact Z
 ·rw[aK hb]at e;exact(x b u e).stay (fun c v _ q=>k c v q) (fun c q=>by rw[aK (aR q Y)];exact q) fun c xs q=>by rw[aK (aR q Y)];exact q
end
def Rd(H:Hp)(a:dt)(u:HO):Prop:=H a=ar u\/∃o,H a=ar (.frz o u)
theorem Rd.ok{P:eM}{w:fg}{H:Hp}{h:gd}{a:dt}{u:HO}(r:Rd H a u)(x:gG P w H h):bB P w H h a u:=by
 rcases r with r|⟨o,r⟩
 ·exact x a u r
 ·obtain⟨_,q⟩:=x a _ r;exact q
def Ks:Option HO->Prop
 |some (.lst _)=>True
 |some (.dK _)=>True
 |some (.dT _)=>True
 |some (.set _ _)=>True
 |some (.ins _ _ _)=>True
 |some (.ext _)=>True
 |_=>False
section
variable {P:eM}{w:fg}{H:Hp}{h h':gd}{x e:dt}{o':HO}
theorem gG.write(Q:gG P w H h)(X:Ks (H x))(R:e=x\/H e=ar (.own x))(k:∀b u,b≠e->h.get? b=ar u->h'.get? b=ar u)(T:∃u,h'.get? e=ar u)
  (U:bB P w (upd H x o') h' x o'):gG P w (upd H x o') h':=fun b u q=>by
 have Z:∀c y,H c=ar (.own y)->c≠x:=fun c y r z=>by subst z;rw[r]at X;exact X
 have Y:∀c xs,H c=ar (.tup xs)->c≠x:=fun c xs r z=>by subst z;rw[r]at X;exact X
 by_cases hb:b=x
 ·subst hb;rw[aX]at q;cases q;exact U
 ·rw[aK hb]at q;by_cases hbe:b=e
  ·have S:H b=ar (.own x):=by
    rcases R with z|z
    ·exact absurd (hbe.trans z) hb
    ·rw[hbe];exact z
   rw[q]at S;cases S;obtain⟨v,O⟩:=T;exact⟨v,by rw[hbe];exact O⟩
  ·refine(Q b u q).stay (fun c v W r=>k c v ?_ r) (fun c r=>by rw[aK (Z c b r)];exact r) fun c xs r=>by rw[aK (Y c xs r)];exact r
   rcases W with rfl|W
   ·exact hbe
   ·rintro rfl;rcases R with z|z
    ·exact Z c b W z
    ·rw[W]at z;cases z;exact hb rfl
end
structure Un(fs ex:List dt)(H H':Hp)(h h':gd):Prop where
 keep:∀b o,h.get? b=ar o->H b=none->b∉fs->b∉ex->h'.get? b=ar o
 slot:∀b o,h.get? b=ar o->H b=none->b∈fs->b∉ex->∃sl,h'.get? b=ar {o with slots:=sl}
 free:∀b o,h.get? b=ar o->H b=none->b∉ex->H' b=none
 there:∀b o,h.get? b=ar o->b∉ex->∃o',h'.get? b=ar o'
 tups:∀b xs,H b=ar (.tup xs)->H' b=ar (.tup xs)
 frzs:∀b o u,H b=ar (.frz o u)->H' b=ar (.frz o u)
 tbls:∀b ps,H b=ar (.tbl ps)->∃more,H' b=ar (.tbl (ps++more))
section
variable {fs fs' ex ex':List dt}{H H1 H2:Hp}{h h1 h2 h':gd}{a x e:dt}{o:HO}
theorem Un.any(u:Un fs ex H H1 h h1)(q:h.get? b=ar ob)(n:H b=none)(Z:b∉ex):∃sl,h1.get? b=ar {ob with slots:=sl}:=by
 by_cases hb:b∈fs
 ·exact u.slot b ob q n hb Z
 ·exact⟨ob.slots,u.keep b ob q n hb Z⟩
theorem Un.kept(k:∀b u,h.get? b=ar u->h'.get? b=ar u):Un fs ex H H h h':=
 ⟨fun b Z q _ _ _=>k b Z q,fun b Z q _ _ _=>⟨Z.slots,k b Z q⟩,fun _ _ _ n _=>n,fun b Z q _=>⟨Z,k b Z q⟩,fun _ _ q=>q,fun _ _ _ q=>q,fun _ Y q=>⟨#[],by rw[q];simp⟩⟩
theorem Un.refl:Un fs ex H H h h:=Un.kept fun _ _ q=>q
theorem Un.laid(k:∀b u,h.get? b=ar u->h'.get? b=ar u)(Y:h.objs.size<=a)(Z:H a=none):Un fs ex H (upd H a o) h h' where
 keep:=fun b u q _ _ _=>k b u q
 slot:=fun b u q _ _ _=>⟨u.slots,k b u q⟩
 free:=fun b u q n _=>by rw[aK (MD (MG (Mx q) Y))];exact n
 there:=fun b u q _=>⟨u,k b u q⟩
 tups:=fun b xs q=>by rw[aK (aR q Z)];exact q
 frzs:=fun b u xs q=>by rw[aK (aR q Z)];exact q
 tbls:=fun b X q=>⟨#[],by rw[aK (aR q Z),q];simp⟩
theorem Un.write(Z:Ks (H x))(U:e=x\/H e=ar (.own x))(k:∀b u,b≠e->h.get? b=ar u->h'.get? b=ar u)(Y:∃u,h'.get? e=ar u):Un fs ex H (upd H x o) h h':=by
 have X:∀b,H b=none->b≠x:=fun b n z=>by subst z;rw[n]at Z;exact Z
 have W:∀b,H b=none->b≠e:=fun b n z=>by
  subst z;rcases U with r|r
  ·exact X b n r
  ·rw[n]at r;cases r
 have hm:∀b u,H b=ar u->¬ Ks (ar u)->b≠x:=fun b u q nm z=>by subst z;rw[q]at Z;exact nm Z
 refine⟨fun b u q n _ _=>k b u (W b n) q,fun b u q n _ _=>⟨u.slots,k b u (W b n) q⟩,fun b u q n _=>by rw[aK (X b n)];exact n,fun b u q _=>?_,
  fun b xs q=>by rw[aK (hm b _ q fun z=>z)];exact q,fun b u xs q=>by rw[aK (hm b _ q fun z=>z)];exact q,fun b T q=>⟨#[],by rw[aK (hm b _ q fun z=>z),q];simp⟩⟩
 by_cases hbe:b=e
 ·subst hbe;exact Y
 ·exact⟨u,k b u hbe q⟩
end
def Kt(h:gd)(H:Hp):List Addr:=(eb h.objs.size).filter fun a=>(H a).isSome
def lF(h:gd)(H:Hp):Heap:=W.hideAll h (Kt h H)
theorem nP(h:gd)(H:Hp):(lF h H).objs.size=h.objs.size:=W.hideAll_size _ _
theorem mJ{h:gd}{H:Hp}(e:h.get? b=ar o)(n:H b=none):(lF h H).get? b=ar o:=
 W.hideAll_get _ e fun hm=>by
  have q:(H b).isSome=true:=(Nr.mp hm).2;rw[n]at q;simp at q
theorem tW{H:Hp}(e:(lF h H).get? b=ar o):h.get? b=ar o/\H b=none:=by
 have Z:h.get? b=ar o:=W.of_hideAll (Kt h H) e;refine⟨Z,?_⟩;cases q:H b with
 |none=>rfl
 |some x=>
  have hm:b∈Kt h H:=Nr.mpr ⟨MC.mpr (Mx Z),by simp[q]⟩
  have z:(lF h H).get? b=none:=W.hideAll_none (Kt h H) hm;rw[z]at e;cases e
def mL(g h:gd)(L:dt):List (dt×Obj):=(eb h.objs.size).filterMap fun a=>if a=L\/(g.get? a).isSome=b_ then none else (h.get? a).map fun o=>(a,o)
theorem vD{g h:gd}(Y:a≠L)(X:g.get? a=none)(Z:h.get? a=ar o):(a,o)∈mL g h L:=
 NS.mpr ⟨a,MC.mpr (Mx Z),by simp[Y,X,Z]⟩
theorem pQ(Z:p∈mL g h L):p.1≠L/\g.get? p.1=none/\h.get? p.1=ar p.2:=by
 obtain⟨b,_,e⟩:=NS.mp Z;split at e
 ·cases e
 ·rename_i hn
  cases q:h.get? b with
  |none=>rw[q]at e;simp at e
  |some u=>
   rw[q]at e;simp only[z6,Option.some.injEq]at e;subst e;refine⟨fun z=>hn (.inl z),?_,q⟩;show g.get? b=none;cases r:g.get? b with
   |none=>rfl
   |some v=>exact(hn (.inr (by simp[r]))).elim
def rest(g h:gd)(L d:dt):List (dt×Obj):=(mL g h L).filter fun p=>decide (p.1≠d)
theorem pR:News g L h (mL g h L):=fun p Z=>let ⟨a,b,c⟩:=pQ Z;⟨c,a,b⟩
end L2
namespace L2
open PySem PySem.Spec PyProof.Rows
structure Mod(K:d_)(mg:Str->Option a_)(base:gd):Prop where
 kin:K.In base
 glob:base.Ns g_ mg
 blt:∃mb,base.Ns wd mb/\∀x:Str,x≠"__name__"->mb x=k8 x
 nolimit:base.NoLimit
structure Cx where
 prog:eM
 w:fg
 K:d_
 mg:Str->Option a_
 base:gd
 A:hI
 N:List Str
 s₀:c_
 H₀:Hp
 env:Env
 outer:List Env
 stack:List Env
 ex:List dt
 fn:Str->Bool
 calm:Bool
 pn:List (dt×Obj)
 xe:a_->c_->Prop
def ko(l:List Env):List Addr:=l.filterMap (·.frame)
abbrev Cx.fs(X:Cx):List Addr:=ko X.outer
def Bu(sc:Scope)(x:Str):Prop:=sc.names.lookup x=ar .local\/sc.names.lookup x=ar .cell\/sc.names.lookup x=ar .free
def Loc(sc:Scope)(x:Str):Prop:=sc.names.lookup x=ar .local\/sc.names.lookup x=ar .cell
def Look(env:Env)(h:gd)(m:Str->Option a_)(x:Str)(u:a_):Prop:=
 (env.kindOf x=ar .local/\m x=ar u)\/((env.kindOf x=ar .cell\/env.kindOf x=ar .free)/\∃c,env.cells.lookup x=ar c/\h.IsCell c (ar u))
structure Cx.Ok(X:Cx):Prop where
 mod:Mod X.K X.mg X.base
 kind:X.env.scope.kind= .function
 glob:X.env.globals=g_
 blt:X.env.builtins=wd
 above:X.s₀.heap.objs.size<=X.env.locals
 inj:∀x y c,X.env.cells.lookup x=ar c->X.env.cells.lookup y=ar c->x=y
 has:∀x,(X.env.kindOf x=ar .cell\/X.env.kindOf x=ar .free)->∃c,X.env.cells.lookup x=ar c
 cab:∀x c,X.fn x=b_->X.env.cells.lookup x=ar c->X.s₀.heap.objs.size<=c
 hd:X.calm=b_->X.A.handled=none
 frames:X.A.frames=ar X.stack
 stk:X.stack=X.outer\/(X.stack=X.env::X.outer/\X.env.frame=ar X.env.locals)
 exf:∀b∈X.ex,b≠X.env.locals/\∀x c,X.env.cells.lookup x=ar c->c≠b
 bs:∀b o,X.base.get? b=ar o->X.s₀.heap.get? b=ar o/\X.H₀ b=none
 bsz:X.base.objs.size<=X.s₀.heap.objs.size
 noex:∀b o,X.base.get? b=ar o->b∉X.ex
 exfs:∀b∈X.ex,b∉X.fs
 funs:X.s₀.heap.FunFrames X.base X.outer
 frf:∀b∈X.fs,X.H₀ b=none
structure Inv(X:Cx)(pins:List (dt×Obj))(σ:List (Option V))(H:Hp)(s:c_):Prop where
 ok:X.Ok
 os:s.os=X.s₀.os
 bare:y2 s.gens
 base:Un X.fs X.ex X.H₀ H X.s₀.heap s.heap
 loc:∃m,s.heap.Ns X.env.locals m/\∀(i:Nat) (x:Str) (v:V),X.N[i]? =ar x->σ[i]? =ar (ar v)->Bu X.env.scope x->∃u,RelV v u/\Look X.env s.heap m x u
 cell:∀x c,X.env.cells.lookup x=ar c->∃v,s.heap.IsCell c v
 free:H X.env.locals=none
 freeC:∀x c,X.env.cells.lookup x=ar c->H c=none
 pin:∀p∈X.pn++pins,s.heap.get? p.1=ar p.2/\H p.1=none/\p.1≠X.env.locals/\p.1∉X.fs/\∀v,p.2.data≠ .cell v
 hok:gG X.prog X.w H s.heap
 len:σ.length=X.N.length
section
variable {X:Cx}{pins:List (dt×Obj)}{σ:List (Option V)}{H H':Hp}{s:c_}{h':gd}
theorem Cx.Ok.nofr(Z:X.Ok)(e:X.base.get? b=ar o):b∉X.fs:=fun Y=>by
 have:=(Z.funs.mem Y).1;rw[e]at this;cases this
theorem Inv.bs(I:Inv X pins σ H s):∀b o,X.base.get? b=ar o->s.heap.get? b=ar o/\H b=none:=fun b o e=>
 ⟨I.base.keep b o (I.ok.bs b o e).1 (I.ok.bs b o e).2 (I.ok.nofr e) (I.ok.noex b o e),I.base.free b o (I.ok.bs b o e).1 (I.ok.bs b o e).2 (I.ok.noex b o e)⟩
theorem Inv.bk(I:Inv X pins σ H s):∀b o,X.base.get? b=ar o->s.heap.get? b=ar o:=fun b o e=>(I.bs b o e).1
theorem Inv.mod(I:Inv X pins σ H s):Mod X.K X.mg X.base:=I.ok.mod
theorem Inv.kIn(I:Inv X pins σ H s):X.K.In s.heap:=I.ok.mod.kin.keeps I.bk
theorem Inv.fr(I:Inv X pins σ H s):∃m,Fr X.base X.env.locals s.heap m:=
 let ⟨m,hn,_⟩:=I.loc
 ⟨m,hn,I.bk,ME I.ok.bsz I.ok.above⟩
theorem Inv.lt(I:Inv X pins σ H s):X.env.locals<s.heap.objs.size:=let ⟨_,hn,_⟩:=I.loc;hn.lt
theorem Inv.sz(I:Inv X pins σ H s):X.s₀.heap.objs.size<=s.heap.objs.size:=ME I.ok.above (N5 I.lt)
theorem Inv.nofs(I:Inv X pins σ H s)(h:s.heap.objs.size<=a):a∉X.fs:=fun Y=>by
 obtain⟨_,o,Z,_⟩:=I.ok.funs.mem Y;exact absurd (MG (Mx Z) (ME I.sz h)) (NW _)
theorem Inv.cne(I:Inv X pins σ H s):∀x c,X.env.cells.lookup x=ar c->c≠X.env.locals:=fun x c e z=>by
 obtain⟨v,o,W,hd⟩:=I.cell x c e;obtain⟨m,⟨U,es,ep,Z,Y,_⟩,_⟩:=I.loc;rw[z,Z]at W;cases W;rw[Y]at hd;cases hd
theorem Inv.funs(I:Inv X pins σ H s):s.heap.FunFrames X.base X.outer:=by
 have all:∀(l:List Env),(∀b∈ko l,b∈X.fs)->X.s₀.heap.FunFrames X.base l->s.heap.FunFrames X.base l:=by
  intro l
  induction l with
  |nil=>intro _ _;trivial
  |cons env r ih=>
   intro hs W;obtain⟨S,⟨L,o,hf,T,U,hd⟩,R⟩:=W;have Z:L∈X.fs:=hs L (by unfold ko;rw[Nb,hf];exact MH)
   obtain⟨Q,e⟩:=I.base.slot L o U (I.ok.frf L Z) Z fun z=>I.ok.exfs L z Z;exact⟨S,⟨L,_,hf,T,e,hd⟩,ih (fun b Y=>hs b (by unfold ko;rw[Nb,hf];exact My _ Y)) R⟩
 exact all X.outer (fun _ Y=>Y) I.ok.funs
theorem Inv.stack(I:Inv X pins σ H s):s.heap.FunFrames X.base X.stack:=by
 rcases I.ok.stk with e|⟨e,hf⟩
 ·rw[e];exact I.funs
 ·rw[e];obtain⟨m,Z,_⟩:=I.loc;refine .cons (by rw[I.ok.kind];decide) hf Z ?_ I.funs
  exact Nu (ME I.ok.bsz I.ok.above)
theorem Inv.stkSub(I:Inv X pins σ H s):∀b∈ko X.stack,b∈X.env.locals::X.fs:=fun b Z=>by
 rcases I.ok.stk with e|⟨e,hf⟩
 ·rw[e]at Z;exact My _ Z
 ·rw[e]at Z;unfold ko at Z;rw[Nb,hf]at Z;exact Z
theorem Inv.stkFree(I:Inv X pins σ H s):∀b∈ko X.stack,H b=none:=fun b Z=>by
 rcases MK.mp (I.stkSub b Z)with e|Z
 ·rw[e];exact I.free
 ·obtain⟨_,o,Y,_⟩:=I.ok.funs.mem Z;exact I.base.free b o Y (I.ok.frf b Z) fun z=>I.ok.exfs b z Z
theorem Inv.step{g':Array P_}{t':Nat}{d':Drawn}{ch:List dt}(I:Inv X pins σ H s)
  (W:∀b∈ch,(b∈X.ex\/X.s₀.heap.objs.size<=b)/\b≠X.env.locals/\(∀x c,X.env.cells.lookup x=ar c->c≠b)/\∀p∈X.pn++pins,p.1≠b)
  (keep:∀b o,b≠X.env.locals->b∉X.fs->b∉ch->s.heap.get? b=ar o->H b=none->h'.get? b=ar o)
  (S:∀b o,b≠X.env.locals->b∈X.fs->b∉ch->s.heap.get? b=ar o->H b=none->∃E,h'.get? b=ar {o with slots:=E}) (Y:∀b o,b∉ch->s.heap.get? b=ar o->H b=none->H' b=none)
  (R:∀b o,b∉ch->s.heap.get? b=ar o->∃O,h'.get? b=ar O)
  (N:∀b xs,H b=ar (.tup xs)->H' b=ar (.tup xs)) (K:∀b o u,H b=ar (.frz o u)->H' b=ar (.frz o u)) (J:∀b G,H b=ar (.tbl G)->∃more,H' b=ar (.tbl (G++more)))
  (ns:∀m,s.heap.Ns X.env.locals m->h'.Ns X.env.locals m) (F:gG X.prog X.w H' h') (j:y2 g'):
  Inv X pins σ H' {s with heap:=h',gens:=g',drawn:=d',toks:=t'}:=by
 have L:∀b o,X.s₀.heap.get? b=ar o->b≠X.env.locals:=fun b o e=>MD (MG (Mx e) I.ok.above);have T:∀b o,X.s₀.heap.get? b=ar o->b∉X.ex->b∉ch:=fun b o e Z Q=>by
  rcases (W b Q).1 with z|z
  ·exact Z z
  ·exact absurd (MG (Mx e) z) (NW _)
 have cellK:∀x c,X.env.cells.lookup x=ar c->∀v,s.heap.IsCell c v->h'.IsCell c v:=fun x c e v ⟨o,P,hd⟩=>by
  have U:c∉ch:=fun z=>(W c z).2.2.1 x c e rfl;by_cases hc:c∈X.fs
  ·obtain⟨E,q⟩:=S c o (I.cne x c e) hc U P (I.freeC x c e);exact⟨_,q,hd⟩
  ·exact⟨o,keep c o (I.cne x c e) hc U P (I.freeC x c e),hd⟩
 refine⟨I.ok,I.os,j,⟨fun b o e n Q Z=>?_,fun b o e n Q Z=>?_,fun b o e n Z=>?_,fun b o e Z=>?_,fun b xs e=>N b xs (I.base.tups b xs e),fun b o xs e=>K b o xs (I.base.frzs b o xs e),fun b G e=>?_⟩,?_,fun x c e=>?_,?_,fun x c e=>?_,fun p A=>?_,F,I.len⟩
 ·exact keep b o (L b o e) Q (T b o e Z) (I.base.keep b o e n Q Z) (I.base.free b o e n Z)
 ·obtain⟨E,e1⟩:=I.base.slot b o e n Q Z;obtain⟨C,e2⟩:=S b _ (L b o e) Q (T b o e Z) e1 (I.base.free b o e n Z);exact⟨C,e2⟩
 ·obtain⟨O,e1⟩:=I.base.there b o e Z;exact Y b O (T b o e Z) e1 (I.base.free b o e n Z)
 ·obtain⟨O,e1⟩:=I.base.there b o e Z;exact R b O (T b o e Z) e1
 ·obtain⟨h,e1⟩:=I.base.tbls b G e;obtain⟨t,e2⟩:=J b _ e1;exact⟨h++t,by rw[e2,Array.append_assoc]⟩
 ·obtain⟨m,f,g⟩:=I.loc;refine⟨m,ns m f,fun i x v e1 e2 y=>?_⟩;obtain⟨u,r,l⟩:=g i x v e1 e2 y;refine⟨u,r,?_⟩;rcases l with l|⟨k,c,e,z⟩
  ·exact .inl l
  ·exact .inr ⟨k,c,e,cellK x c e _ z⟩
 ·obtain⟨v,z⟩:=I.cell x c e;exact⟨v,cellK x c e v z⟩
 ·obtain⟨m,⟨o,_,_,P,_⟩,_⟩:=I.loc;exact Y _ o (fun z=>(W _ z).2.1 rfl) P I.free
 ·obtain⟨v,o,P,hd⟩:=I.cell x c e;exact Y c o (fun z=>(W c z).2.2.1 x c e rfl) P (I.freeC x c e)
 ·obtain⟨e,n,ne,B,d⟩:=I.pin p A;have U:p.1∉ch:=fun z=>(W p.1 z).2.2.2 p A rfl;exact⟨keep p.1 p.2 ne B U e n,Y p.1 p.2 U e n,ne,B,d⟩
theorem Inv.un{t':Nat}(I:Inv X pins σ H s)(u:Un X.fs [] H H' s.heap h')(U:gG X.prog X.w H' h'):Inv X pins σ H' {s with heap:=h',toks:=t'}:=by
 obtain⟨m,⟨o,es,ep,T,r⟩,_⟩:=id I.loc;obtain⟨P,S⟩:=u.any T I.free (by simp)
 exact I.step (g':=s.gens) (d':=s.drawn) (ch:=[]) (fun _ z=>nomatch z) (fun b o _ Y _ e n=>u.keep b o e n Y (by simp)) (fun b o _ Y _ e n=>u.slot b o e n Y (by simp)) (fun b o _ e n=>u.free b o e n (by simp)) (fun b o _ e=>u.there b o e (by simp)) u.tups u.frzs u.tbls (fun O hm=>by
  obtain⟨Q,es',W,Z,R⟩:=hm;rw[T]at Z;cases Z;exact⟨_,es',W,S,R⟩) U I.bare
theorem Inv.call{g':Array P_}{t':Nat}{d':Drawn}{ch:List dt}(I:Inv X pins σ H s)(u:Un (ko X.stack) ch H H' s.heap h')(S:gG X.prog X.w H' h')(O:y2 g')
  (Y:∀b∈ch,(b∈X.ex\/X.s₀.heap.objs.size<=b)/\b≠X.env.locals/\(∀x c,X.env.cells.lookup x=ar c->c≠b)/\∀p∈X.pn++pins,p.1≠b):
  Inv X pins σ H' {s with heap:=h',gens:=g',drawn:=d',toks:=t'}:=by
 obtain⟨m,⟨o,es,ep,R,r⟩,_⟩:=id I.loc;obtain⟨L,U⟩:=u.any R I.free fun z=>(Y _ z).2.1 rfl;exact I.step (ch:=ch) Y (fun b o U Q Z e n=>u.keep b o e n (fun z=>(MK.mp (I.stkSub b z)).elim U Q) Z) (fun b o _ _ Z e n=>u.any e n Z) (fun b o Z e n=>u.free b o e n Z) (fun b o Z e=>u.there b o e Z) u.tups u.frzs u.tbls (fun K hm=>by
  obtain⟨N,es',T,W,P⟩:=hm;rw[R]at W;cases W;exact⟨_,es',T,U,P⟩) S O
theorem Inv.turned{t':Nat}{it:dt}(I:Inv X pins σ H s)(k:∀b o,b≠it->s.heap.get? b=ar o->h'.get? b=ar o)(R:H it=none)(W:it≠X.env.locals)
  (T:it∈X.ex\/X.s₀.heap.objs.size<=it) (S:∀x c,X.env.cells.lookup x=ar c->c≠it) (Q:∀p∈X.pn++pins,p.1≠it):Inv X pins σ H {s with heap:=h',toks:=t'}:=by
 have Y:∀b u,H b=ar u->b≠it:=fun b u e z=>by rw[z,R]at e;cases e
 refine I.step (g':=s.gens) (d':=s.drawn) (ch:=[it]) (fun b P=>?_) (fun b o _ _ Z e _=>k b o (fun z=>Z (by simp[z])) e) (fun b o _ _ Z e _=>⟨o.slots,k b o (fun z=>Z (by simp[z])) e⟩) (fun _ _ _ _ n=>n)
  (fun b o Z e=>⟨o,k b o (fun z=>Z (by simp[z])) e⟩) (fun _ _ e=>e) (fun _ _ _ e=>e) (fun b O e=>⟨#[],by rw[e];simp⟩) (fun m hm=>?_) (fun b u e=>?_) I.bare
 ·have e:b=it:=by simpa using P
  subst e;exact⟨T,W,S,Q⟩
 ·obtain⟨o,es,ep,U,r⟩:=hm;exact⟨o,es,ep,k _ o (kr W) U,r⟩
 ·refine(I.hok b u e).stay (fun c v Z q=>k c v ?_ q) (fun _ q=>q) fun _ _ q=>q;rcases Z with z|z
  ·rw[z];exact Y b u e
  ·exact Y c _ z
theorem Inv.tok(I:Inv X pins σ H s)(t:Nat):Inv X pins σ H {s with toks:=t}:=I.un (h':=s.heap) (t':=t) Un.refl I.hok
theorem Inv.kept(I:Inv X pins σ H s)(k:∀b u,s.heap.get? b=ar u->h'.get? b=ar u):Inv X pins σ H {s with heap:=h',toks:=t'}:=I.un (Un.kept k) (I.hok.kept k)
theorem Inv.laid(I:Inv X pins σ H s)(k:∀b u,s.heap.get? b=ar u->h'.get? b=ar u)(Z:s.heap.objs.size<=a)(Y:bB X.prog X.w (upd H a o) h' a o):
  Inv X pins σ (upd H a o) {s with heap:=h',toks:=t'}:=I.un (Un.laid k Z (I.hok.fresh Z)) (I.hok.laid k Z Y)
theorem Inv.write(I:Inv X pins σ H s)(U:Ks (H x))(W:e=x\/H e=ar (.own x))(k:∀b u,b≠e->s.heap.get? b=ar u->h'.get? b=ar u)(Z:∃u,h'.get? e=ar u)
  (Y:bB X.prog X.w (upd H x o) h' x o):Inv X pins σ (upd H x o) {s with heap:=h',toks:=t'}:=I.un (Un.write U W k Z) (I.hok.write U W k Z Y)
theorem Inv.pins_of(I:Inv X pins σ H s)(h:∀p∈pins',s.heap.get? p.1=ar p.2/\H p.1=none/\p.1≠X.env.locals/\p.1∉X.fs/\∀v,p.2.data≠ .cell v):Inv X pins' σ H s:=
 ⟨I.ok,I.os,I.bare,I.base,I.loc,I.cell,I.free,I.freeC,fun p Z=>(NQ.mp Z).elim (fun z=>I.pin p (OL _ z)) (h p),I.hok,I.len⟩
theorem pS{N:List Str}(Z:N.Nodup){i j:Nat}{x:Str}(a:N[i]? =ar x)(b:N[j]? =ar x):i=j:=by
 obtain⟨Y,e1⟩:=Mv.mp a;obtain⟨W,e2⟩:=Mv.mp b;exact(Qv Z).mp (e1.trans e2.symm)
theorem sE{M:Sj}{A:hI}{E:a_->c_->Prop}{i:Nat}{x:Str}{v:V}{u:a_}{Q:Unit->c_->Prop}(I:Inv X pins σ H s)(hN:X.N.Nodup)(hi:X.N[i]? =ar x)(Y:Loc X.env.scope x)(r:RelV v u)
  (h:∀s',Inv X pins (σ.set i (ar v)) H s'->(∃a,sA a s.heap s'.heap/\(a=X.env.locals\/X.env.cells.lookup x=ar a))->Q () s') (hf:X.fn x=b_\/X.env.scope.names.lookup x=ar .local:=by first|exact .inl rfl|exact .inr rfl|assumption):er M A (storeName X.env x u) Q E s:=by
 obtain⟨m,hn,hl⟩:=id I.loc;have P:(X.env.scope.kind== .class||(X.env.scope.kind== .module && X.env.locals !=X.env.globals))=false:=by rw[I.ok.kind];rfl
 have U:i<σ.length:=by rw[I.len];exact(Mv.mp hi).1
 have R:=I.cne;have tracked:∀{a:dt} {h':gd},(∃o,s.heap.get? a=ar o/\H a=none)->sA a s.heap h'->gG X.prog X.w H h':=fun{a h'} ha hs b ob e=>by
  obtain⟨_,_,W⟩:=ha;refine(I.hok b ob e).stay (fun c J Z q=>(hs.2 c ?_).trans q) (fun _ q=>q) fun _ _ q=>q;rintro rfl;rcases Z with rfl|Z
  ·rw[W]at e;cases e
  ·rw[W]at Z;cases Z
 rcases Y with hk|hk
 ·refine wpAny_storeName_local hk hn (fun h' a5 hs=>?_) P;obtain⟨oL,_,_,t,_⟩:=id hn;refine h _ ⟨I.ok,I.os,I.bare,⟨fun b o e n S Y=>?_,fun b o e n S Y=>?_,I.base.free,fun b o e Y=>?_,I.base.tups,I.base.frzs,I.base.tbls⟩,⟨_,a5,fun j y l e1 e2 B=>?_⟩,fun y c e=>?_,I.free,I.freeC,fun p f=>?_,tracked ⟨oL,t,I.free⟩ hs,by simpa using I.len⟩ ⟨_,hs,.inl rfl⟩
  ·exact(hs.2 b (MD (MG (Mx e) I.ok.above))).trans (I.base.keep b o e n S Y)
  ·obtain⟨sl,e1⟩:=I.base.slot b o e n S Y;exact⟨sl,(hs.2 b (MD (MG (Mx e) I.ok.above))).trans e1⟩
  ·obtain⟨F,e1⟩:=I.base.there b o e Y;exact⟨F,(hs.2 b (MD (MG (Mx e) I.ok.above))).trans e1⟩
  ·by_cases hj:j=i
   ·subst hj;rw[hi]at e1;cases e1;rw[M9 U]at e2;cases e2;exact⟨u,r,.inl ⟨hk,by simp⟩⟩
   ·rw[Nv (kr hj)]at e2;obtain⟨u',g,q⟩:=hl j y l e1 e2 B;refine⟨u',g,?_⟩;rcases q with⟨k,e⟩|⟨k,c,e,z⟩
    ·refine .inl ⟨k,?_⟩;have:y≠x:=fun e=>hj (pS hN e1 (e ▸ hi));simp[this,e]
    ·exact .inr ⟨k,c,e,z.sameBut hs (R y c e)⟩
  ·obtain⟨J,z⟩:=I.cell y c e;exact⟨J,z.sameBut hs (R y c e)⟩
  ·obtain⟨e,n,ne,C,d⟩:=I.pin p f;exact⟨(hs.2 p.1 ne).trans e,n,ne,C,d⟩
 ·have T:X.fn x=true:=by
   rcases hf with z|z
   ·exact z
   ·rw[z]at hk;cases hk
  obtain⟨c,Z⟩:=I.ok.has x (.inl hk);obtain⟨J,z⟩:=I.cell x c Z;refine wpAny_storeName_cell I.ok.kind hk Z z (fun h' O hs=>?_);obtain⟨oc,L,K⟩:=id z;refine h {s with heap:=h'} ⟨I.ok,I.os,I.bare,⟨fun b o e n S Y=>?_,fun b o e n S Y=>?_,I.base.free,fun b o e Y=>?_,I.base.tups,I.base.frzs,I.base.tbls⟩,⟨m,hn.sameBut hs (kr (R x c Z)),fun j y l e1 e2 B=>?_⟩,fun y G e=>?_,I.free,I.freeC,fun p f=>?_,tracked ⟨oc,L,I.freeC x c Z⟩ hs,by simpa using I.len⟩ ⟨c,hs,.inr Z⟩
  ·exact(hs.2 b (MD (MG (Mx e) (I.ok.cab x c T Z)))).trans (I.base.keep b o e n S Y)
  ·obtain⟨sl,e1⟩:=I.base.slot b o e n S Y;exact⟨sl,(hs.2 b (MD (MG (Mx e) (I.ok.cab x c T Z)))).trans e1⟩
  ·obtain⟨F,e1⟩:=I.base.there b o e Y;exact⟨F,(hs.2 b (MD (MG (Mx e) (I.ok.cab x c T Z)))).trans e1⟩
  ·by_cases hj:j=i
   ·subst hj;rw[hi]at e1;cases e1;rw[M9 U]at e2;cases e2;exact⟨u,r,.inr ⟨.inl hk,c,Z,O⟩⟩
   ·rw[Nv (kr hj)]at e2;obtain⟨u',g,q⟩:=hl j y l e1 e2 B;refine⟨u',g,?_⟩;rcases q with q|⟨k,G,e,z'⟩
    ·exact .inl q
    ·refine .inr ⟨k,G,e,z'.sameBut hs ?_⟩;rintro rfl;exact hj (pS hN e1 (I.ok.inj _ _ _ e Z ▸ hi))
  ·by_cases hcc:G=c
   ·subst hcc;exact⟨_,O⟩
   ·obtain⟨w2,z2⟩:=I.cell y G e;exact⟨w2,z2.sameBut hs hcc⟩
  ·obtain⟨e,n,ne,C,d⟩:=I.pin p f;refine⟨(hs.2 p.1 ?_).trans e,n,ne,C,d⟩;intro q;rw[q,L]at e;have q':oc=p.2:=MS e;exact d J (by rw[<-q'];exact K)
theorem kq{Q:Unit->c_->Prop}(I:Inv X pins σ H s)(U:X.N.Nodup)(hi:X.N[i]? =ar x)(Z:Loc X.env.scope x)(r:RelV v u)
  (h:∀s',Inv X pins (σ.set i (ar v)) H s'->Q () s') (Y:X.fn x=b_\/X.env.scope.names.lookup x=ar .local:=by first|exact .inl rfl|exact .inr rfl|assumption):er M A (storeName X.env x u) Q E s:=
 sE I U hi Z r (fun s' W _=>h s' W) Y
theorem Inv.call'{s':c_}(I:Inv X pins σ H s)(U:s'.os=s.os)(u:Un (ko X.stack) ch H H' s.heap s'.heap)(Y:gG X.prog X.w H' s'.heap)(T:y2 s'.gens)
  (Z:∀b∈ch,(b∈X.ex\/X.s₀.heap.objs.size<=b)/\b≠X.env.locals/\(∀x c,X.env.cells.lookup x=ar c->c≠b)/\∀p∈X.pn++pins,p.1≠b):Inv X pins σ H' s':=by
 obtain⟨h',g',d',t',W⟩:=s';have e:W=s.os:=U;subst e;exact I.call (g':=g') (t':=t') (d':=d') u Y T Z
end
abbrev XK:=a_->Option dt->Hp->Prop
abbrev St:=List (Option V)
abbrev VK:=V->Hp->Prop
abbrev TE:=St->Hp->VK->Prop
abbrev TT:=St->Hp->(Bool->Hp->Prop)->Prop
abbrev TA:=St->Hp->(List V->Hp->Prop)->Prop
structure Ends where
 nx:St->Hp->Prop
 rt:VK
 bk:St->Hp->Prop:=fun _ _=>False
 ct:St->Hp->Prop:=fun _ _=>False
abbrev TS:=Ends->St->Hp->Prop
def EP(X:Cx)(pins:List (dt×Obj))(σ:St)(Q:VK)(u:a_)(s':c_):Prop:=∃v H',Inv X pins σ H' s'/\RelV v u/\Q v H'
def TP(X:Cx)(pins:List (dt×Obj))(σ:St)(Q:Bool->Hp->Prop)(b:Bool)(s':c_):Prop:=∃H',Inv X pins σ H' s'/\Q b H'
def AP(X:Cx)(pins:List (dt×Obj))(σ:St)(Q:List V->Hp->Prop)(us:List a_)(s':c_):Prop:=∃vs H',Inv X pins σ H' s'/\bw vs us/\Q vs H'
def SP(X:Cx)(pins:List (dt×Obj))(D:Ends)(f:Flow)(s':c_):Prop:=
 match f with
 | .next=>∃ σ' H',Inv X pins σ' H' s'/\D.nx σ' H'
 | .brk=>∃ σ' H',Inv X pins σ' H' s'/\D.bk σ' H'
 | .cont=>∃ σ' H',Inv X pins σ' H' s'/\D.ct σ' H'
 | .ret u=>∃v σ' H',Inv X pins σ' H' s'/\RelV v u/\D.rt v H'
def PE(X:Cx)(e:Expr)(t:TE):Prop:=
 ∀(pins:List (dt×Obj)) (s:c_) (σ:St) (H:Hp) (Q:VK),Inv X pins σ H s->t σ H Q->er (f_ X.prog X.w) X.A (hS e X.env) (EP X pins σ Q) X.xe s
def PT(X:Cx)(e:Expr)(t:TT):Prop:=
 ∀(pins:List (dt×Obj)) (s:c_) (σ:St) (H:Hp) (Q:Bool->Hp->Prop),Inv X pins σ H s->t σ H Q->er (f_ X.prog X.w) X.A (isTrue e X.env (hS e X.env)) (TP X pins σ Q) X.xe s
def PW(X:Cx)(e:Expr)(t:TT):Prop:=
 ∀(whole:Sem a_) (pins:List (dt×Obj)) (s:c_) (σ:St) (H:Hp) (Q:Bool->Hp->Prop),Inv X pins σ H s->t σ H Q->er (f_ X.prog X.w) X.A (isTrue e X.env whole) (TP X pins σ Q) X.xe s
theorem PW.pt(h:PW X e t):PT X e t:=h _
def PA(X:Cx)(es:List Expr)(t:TA):Prop:=
 ∀(pos:Pos) (pins:List (dt×Obj)) (s:c_) (σ:St) (H:Hp) (Q:List V->Hp->Prop),Inv X pins σ H s->t σ H Q->er (f_ X.prog X.w) X.A (spliced (pa pos (ee es X.env))) (AP X pins σ Q) X.xe s
def PS(X:Cx)(st:ri)(t:TS):Prop:=
 ∀(pins:List (dt×Obj)) (s:c_) (σ:St) (H:Hp) (D:Ends),Inv X pins σ H s->t D σ H->er (f_ X.prog X.w) X.A (exec st X.env) (SP X pins D) X.xe s
def rS(X:Cx)(st:List ri)(t:TS):Prop:=
 ∀(pins:List (dt×Obj)) (s:c_) (σ:St) (H:Hp) (D:Ends),Inv X pins σ H s->t D σ H->er (f_ X.prog X.w) X.A (execs st X.env) (SP X pins D) X.xe s
theorem eJ{Y:Type}{t:Sem Y}{Q Z:Y->c_->Prop}{M:Sj}{A:hI}{E:a_->c_->Prop}{s:c_}(h:er M A t Q E s)(X:∀a s,Q a s->Z a s):er M A t Z E s:=Nf h X fun _ _ x=>x
end L2
namespace L2
open PySem PySem.Spec PyProof.Rows
section
variable {X:Cx}
def Ja(i:Nat):TE:=fun σ H Q=>∃v,σ[i]? =ar (ar v)/\Q v H
def tC(v:V):TE:=fun _ H Q=>Q v H
theorem tX(U:X.N[i]? =ar x)(S:Bu X.env.scope x)(Z:(x==("__debug__":Str))=false:=by decide)(Y:(x==("__classdict__":Str))=false:=by decide):PE X (.Name x pos) (Ja i):=by
 intro pins s σ H Q I h;obtain⟨v,e,h⟩:=h;obtain⟨m,T,W⟩:=I.loc;obtain⟨u,r,l⟩:=W i x v U e S;have fin:EP X pins σ Q u s:=⟨v,H,I,r,h⟩;rcases l with⟨hk,hm⟩|⟨hk,c,hc,hcell⟩
 ·exact RM (wpAny_loadName_local I.ok.kind hk T hm fin) Z
 ·rcases hk with hk|hk
  ·exact RM (wpAny_loadName_cell I.ok.kind hk hc hcell fin) Z
  ·exact RM (wpAny_loadName_free I.ok.kind hk hc hcell fin Y) Z
theorem xo{i j pos}:PE X (.Constant (.int i) j pos) (tC (.int i)):=fun _ _ _ H _ I h=>wpAny_Constant_int ⟨.int i,H,I.tok _,⟨_,rfl⟩,h⟩
theorem Jb{b j pos}:PE X (.Constant (.bool b) j pos) (tC (.bl b)):=fun _ _ _ H _ I h=>Constant_bool ⟨.bl b,H,I,rfl,h⟩
theorem Gz{j pos}:PE X (.Constant .none j pos) (tC .non):=fun _ _ _ H _ I h=>Constant_none ⟨.non,H,I,rfl,h⟩
theorem GA{x j pos}:PE X (.Constant (.str x) j pos) (tC (.str x)):=fun _ _ _ H _ I h=>Calls.Constant_str ⟨.str x,H,I.tok _,⟨_,rfl⟩,h⟩
def Gl(X:Cx)(x:Str):Prop:=X.env.kindOf x=ar .globalImplicit
theorem kX{Q:a_->c_->Prop}(I:Inv X pins σ H s)(Y:Gl X x)(W:X.mg x=ar u)(h:Q u s)
  (Z:(x==("__debug__":Str))=false:=by decide):er (f_ X.prog X.w) X.A (hS (.Name x pos) X.env) Q E s:=
 PM I.ok.kind Y (Calls.loadGlobal_global (by rw[I.ok.glob];exact I.mod.glob.keeps I.bk) W h) Z
theorem lY{Q:a_->c_->Prop}(I:Inv X pins σ H s)(W:Gl X x)(S:X.mg x=none)(Y:k8 x=ar u)(h:Q u s)
  (R:x≠"__name__":=by decide) (Z:(x==("__debug__":Str))=false:=by decide):er (f_ X.prog X.w) X.A (hS (.Name x pos) X.env) Q E s:=by
 obtain⟨P,T,U⟩:=I.mod.blt;exact PM I.ok.kind W (Calls.loadGlobal_builtin (by rw[I.ok.glob];exact I.mod.glob.keeps I.bk) S (by rw[I.ok.blt];exact T.keeps I.bk) ((U x R).trans Y) h) Z
theorem yD(Y:Gl X x)(W:X.mg x=ar u)(r:RelV v u)(Z:(x==("__debug__":Str))=false:=by decide):PE X (.Name x pos) (tC v):=
 fun _ _ _ H _ I h=>kX I Y W ⟨v,H,I,r,h⟩ Z
theorem pE(W:Gl X x)(U:X.mg x=none)(Y:k8 x=ar u)(r:RelV v u)(T:x≠"__name__":=by decide)(Z:(x==("__debug__":Str))=false:=by decide):PE X (.Name x pos) (tC v):=
 fun _ _ _ H _ I h=>lY I W U Y ⟨v,H,I,r,h⟩ T Z
variable {a b:Expr}{ta tb:TE}{pos:Pos}
theorem vE(b:Expr)(h:op≠ .In)(Z:op≠ .NotIn):mh op b=false:=by
 have e1:(op==CmpOp.In)=false:=by cases op<;>first|rfl|exact absurd rfl h
 have e2:(op==CmpOp.NotIn)=false:=by cases op<;>first|rfl|exact absurd rfl Z
 cases b<;>simp[mh,e1,e2]
def tB(t:TE):TT:=fun σ H Q=>t σ H fun x H1=>∃c,x= .bl c/\Q c H1
theorem GC(h:PE X e t)(Z:∀whole,isTrue e X.env whole=(do let v<-whole;Sa e.pos;A' [v] (truthy v)):=by intro _;rfl):PT X e (tB t):=by
 intro pins s σ H Q I hw;refine isTrue_plain (eJ (h pins s σ H _ I hw) fun v s1 ⟨x,H1,I1,r1,q1⟩=>?_) (Z _);obtain⟨d,rfl,q⟩:=q1;cases r1;exact NK ⟨H1,I1,q⟩
variable {tA tB':TT}{rest:List Expr}
def K1(t u:TT):TT:=fun σ H Q=>t σ H fun c H1=>if c=b_ then u σ H1 Q else Q dV H1
def L8(t u:TT):TT:=fun σ H Q=>t σ H fun c H1=>if c=b_ then Q b_ H1 else u σ H1 Q
def K2(t:TT):TT:=fun σ H Q=>t σ H fun c H1=>Q (!c) H1
theorem Ec(Z:PT X a tA):PW X (.BoolOp .And [a] pos) tA:=by
 intro Y pins s σ H Q I h;refine isTrue_and (eJ (Z pins s σ H Q I h) fun c s1 e=>?_);cases c with
 |true=>exact isTrue_and_nil e
 |false=>exact e
theorem GD(Z:PT X a tA):PW X (.BoolOp .Or [a] pos) tA:=by
 intro Y pins s σ H Q I h;refine isTrue_or (eJ (Z pins s σ H Q I h) fun c s1 e=>?_);cases c with
 |false=>exact isTrue_or_nil e
 |true=>exact e
theorem GE(Z:PT X a tA)(W:PW X (.BoolOp .And (b::rest) pos) tB'):PW X (.BoolOp .And (a::b::rest) pos) (K1 tA tB'):=by
 intro Y pins s σ H Q I h;refine isTrue_and (eJ (Z pins s σ H _ I h) fun c s1 ⟨H1,I1,q1⟩=>?_);cases c with
 |true=>exact W Y pins s1 σ H1 Q I1 q1
 |false=>exact⟨H1,I1,q1⟩
theorem Jc(Z:PT X a tA)(W:PW X (.BoolOp .Or (b::rest) pos) tB'):PW X (.BoolOp .Or (a::b::rest) pos) (L8 tA tB'):=by
 intro Y pins s σ H Q I h;refine isTrue_or (eJ (Z pins s σ H _ I h) fun c s1 ⟨H1,I1,q1⟩=>?_);cases c with
 |true=>exact⟨H1,I1,q1⟩
 |false=>exact W Y pins s1 σ H1 Q I1 q1
theorem GF(Y:PT X a tA):PT X (.UnaryOp .Not a pos) (K2 tA):=by
 intro pins s σ H Q I h;exact isTrue_not (Y pins s σ H (fun c Z=>Q (!c) Z) I h)
def Jd(ta tb:TE):TE:=fun σ H Q=>ta σ H fun x H1=>∃c,x= .bl c/\if c=b_ then tb σ H1 Q else Q (.bl dV) H1
def Je(ta:TE):TE:=fun σ H Q=>ta σ H fun x H1=>∃c,x= .bl c/\Q (.bl (!c)) H1
theorem GG{op}(h:PE X a t):PE X (.BoolOp op [a] pos) t:=fun pins s σ H Q I hw=>BoolOp_one (h pins s σ H Q I hw)
theorem GH(Y:PE X a ta)(W:PE X (.BoolOp .And (b::rest) pos) tb):PE X (.BoolOp .And (a::b::rest) pos) (Jd ta tb):=by
 intro pins s σ H Q I h;refine BoolOp_and (eJ (Y pins s σ H _ I h) fun v s1 ⟨x,H1,I1,r1,Z⟩=>?_);obtain⟨c,rfl,Z⟩:=Z;cases r1;refine NK ?_;cases c with
 |true=>exact W pins s1 σ H1 Q I1 Z
 |false=>exact⟨.bl dV,H1,I1,rfl,Z⟩
theorem GI(Y:PE X a ta):PE X (.UnaryOp .Not a pos) (Je ta):=by
 intro pins s σ H Q I h;refine UnaryOp_ (eJ (Y pins s σ H _ I h) fun v s1 ⟨x,H1,I1,r1,Z⟩=>?_);obtain⟨c,rfl,Z⟩:=Z;cases r1;exact not_of (NK ⟨.bl (!c),H1,I1,rfl,Z⟩)
def L9(t:TT)(ta tb:TE):TE:=fun σ H Q=>t σ H fun c H1=>if c=b_ then ta σ H1 Q else tb σ H1 Q
theorem BB(W:PT X c tA)(Z:PE X a ta)(Y:PE X b tb):PE X (.IfExp c a b pos) (L9 tA ta tb):=by
 intro pins s σ H Q I h;refine wpAny_IfExp (eJ (W pins s σ H _ I h) fun d s1 ⟨H1,I1,q1⟩=>?_);cases d with
 |true=>exact Z pins s1 σ H1 Q I1 q1
 |false=>exact Y pins s1 σ H1 Q I1 q1
end
end L2
namespace L2
open PySem PySem.Spec PyProof.Rows
def kY(K:d_)(H:Hp)(a:dt)(xs:List V):Prop:=
 Rd H a (.lst xs)\/
  ∃(o:Obj) (its:Array a_) (n:Nat),K.lookup a=ar o/\o.cls= .type "list"/\o.dict=none/\o.data= .seq its n/\its.size<=sizeLine/\bw xs its.toList
def lJ(K:d_)(H:Hp)(a:dt)(xs:List V):Prop:=
 Rd H a (.tup xs)\/
  ∃(o:Obj) (its:Array a_) (n:Nat),K.lookup a=ar o/\o.cls= .type "tuple"/\o.data= .seq its n/\its.size<=sizeLine/\bw xs its.toList
def K3:a_->Option V
 | .none=>ar .non
 | .bool b=>ar (.bl b)
 | .int i _=>ar (.int i)
 | .str x _=>ar (.str x)
 | .bytes b _=>ar (.byt b)
 | .float b _=>ar (.flt b)
 | .ref a=>ar (.ref a)
 | .type n=>ar (.ty n)
 |_=>none
theorem RelV.abs(r:RelV x u):K3 u=ar x:=by
 cases x with
 |non=>cases r;rfl
 |bl _=>cases r;rfl
 |int _=>obtain⟨t,rfl⟩:=r;rfl
 |str _=>obtain⟨t,rfl⟩:=r;rfl
 |byt _=>obtain⟨t,rfl⟩:=r;rfl
 |flt _=>obtain⟨t,rfl⟩:=r;rfl
 |ref _=>cases r;rfl
 |ty _=>cases r;rfl
theorem RelV.inj(r:RelV x u)(q:RelV y u):x=y:=MS (r.abs.symm.trans q.abs)
theorem bw.inj:∀{xs ys:List V} {us:List a_},bw xs us->bw ys us->xs=ys
 |_,_,_,.nil,.nil=>rfl
 |_,_,_,.cons r t,.cons r' t'=>by rw[r.inj r',bw.inj t t']
section
variable {X:Cx}{pins:List (dt×Obj)}{σ:St}{H:Hp}{s:c_}{a:dt}{xs ys:List V}
theorem kY.of{K:d_}(h:H a=ar (.lst xs)):kY K H a xs:=.inl (.inl h)
theorem lJ.of{K:d_}(h:H a=ar (.tup xs)):lJ K H a xs:=.inl (.inl h)
theorem Inv.list(I:Inv X pins σ H s)(h:kY X.K H a xs):∃its:List a_,bw xs its/\PlainL s.heap a its.toArray/\xs.length<=sizeLine:=by
 rcases h with h|⟨o,its,n,hk,hc,hd,hs,hz,r⟩
 ·obtain⟨z,its,n,r,e⟩:=h.ok I.hok;exact⟨its,r,⟨_,n,e,rfl,rfl,rfl⟩,z⟩
 ·refine⟨its.toList,r,⟨o,n,I.kIn a o hk,hc,hd,by simpa using hs⟩,?_⟩
  have e:=r.length;simp only[u5]at e;omega
theorem Inv.tuple(I:Inv X pins σ H s)(h:lJ X.K H a xs):∃its:List a_,bw xs its/\R3 s.heap a its.toArray/\xs.length<=sizeLine:=by
 rcases h with h|⟨o,its,n,hk,hc,hs,hz,r⟩
 ·obtain⟨z,its,r,p⟩:=h.ok I.hok;exact⟨its,r,p,z⟩
 ·refine⟨its.toList,r,⟨o,I.kIn a o hk,hc,n,by simpa using hs⟩,?_⟩
  have e:=r.length;simp only[u5]at e;omega
theorem Inv.list_inj(I:Inv X pins σ H s)(h:kY X.K H a xs)(h':kY X.K H a ys):xs=ys:=by
 obtain⟨its,r,⟨o,n,e,_,_,d⟩,_⟩:=I.list h;obtain⟨its',Y,⟨W,n',Z,_,_,d'⟩,_⟩:=I.list h';rw[e]at Z;cases Z;rw[d]at d';injection d' with d1 _;have:its=its':=by simpa using OG Array.toList d1
 subst this;exact r.inj Y
theorem Inv.tuple_inj(I:Inv X pins σ H s)(h:lJ X.K H a xs)(h':lJ X.K H a ys):xs=ys:=by
 obtain⟨its,r,⟨o,e,_,n,d⟩,_⟩:=I.tuple h;obtain⟨its',Y,⟨W,Z,_,n',d'⟩,_⟩:=I.tuple h';rw[e]at Z;cases Z;rw[d]at d';injection d' with d1 _;have:its=its':=by simpa using OG Array.toList d1
 subst this;exact r.inj Y
end
abbrev Cx.wish(X:Cx)(E:a_->c_->Prop):Cx:={X with xe:=E}
abbrev Cx.nox(X:Cx):Cx:=X.wish fun _ _=>False
theorem Cx.Ok.wish{X:Cx}(Z:X.Ok)(E:a_->c_->Prop):(X.wish E).Ok:=
 ⟨Z.mod,Z.kind,Z.glob,Z.blt,Z.above,Z.inj,Z.has,Z.cab,Z.hd,Z.frames,Z.stk,Z.exf,Z.bs,Z.bsz,Z.noex,Z.exfs,Z.funs,Z.frf⟩
theorem Cx.Ok.unwish{X:Cx}(Z:(X.wish E).Ok):X.Ok:=
 ⟨Z.mod,Z.kind,Z.glob,Z.blt,Z.above,Z.inj,Z.has,Z.cab,Z.hd,Z.frames,Z.stk,Z.exf,Z.bs,Z.bsz,Z.noex,Z.exfs,Z.funs,Z.frf⟩
section
variable {X:Cx}{pins:List (dt×Obj)}{σ:St}{H:Hp}{s:c_}{E:a_->c_->Prop}
theorem Inv.wish(I:Inv X pins σ H s)(E:a_->c_->Prop):Inv (X.wish E) pins σ H s:=⟨I.ok.wish E,I.os,I.bare,I.base,I.loc,I.cell,I.free,I.freeC,I.pin,I.hok,I.len⟩
theorem Inv.unwish(I:Inv (X.wish E) pins σ H s):Inv X pins σ H s:=⟨I.ok.unwish,I.os,I.bare,I.base,I.loc,I.cell,I.free,I.freeC,I.pin,I.hok,I.len⟩
theorem SP.unwish(h:SP (X.wish E) pins D f s'):SP X pins D f s':=by
 cases f with
 |next=>obtain⟨Z,Y,I,q⟩:=h;exact⟨Z,Y,I.unwish,q⟩
 |brk=>obtain⟨Z,Y,I,q⟩:=h;exact⟨Z,Y,I.unwish,q⟩
 |cont=>obtain⟨Z,Y,I,q⟩:=h;exact⟨Z,Y,I.unwish,q⟩
 |ret u=>obtain⟨v,Z,Y,I,r,q⟩:=h;exact⟨v,Z,Y,I.unwish,r,q⟩
theorem rS.nox{Z:List ri}{t:TS}(h:rS X.nox Z t):rS X Z t:=fun pins s σ H D I hw=>
 Nf (h pins s σ H D (I.wish _) hw) (fun _ _ q=>q.unwish) fun _ _ z=>hJ z
end
section
variable {X:Cx}{st:ri}{rest:List ri}{t u:TS}{e:Expr}{te:TE}{pos:Pos}
def Jf:TS:=fun D σ H=>D.nx σ H
def K4(t u:TS):TS:=fun D σ H=>t {D with nx:=u D} σ H
theorem Ed:rS X [] Jf:=fun _ _ σ H _ I h=>Ov ⟨σ,H,I,h⟩
theorem vF(U:PS X st t)(T:rS X rest u):rS X (st::rest) (K4 t u):=by
 intro pins s σ H D I h;refine Qw (eJ (U pins s σ H {D with nx:=u D} I h) fun f s1 q=>?_);cases f with
 |next=>
  obtain⟨Z,W,Y,q⟩:=q;exact T pins s1 Z W D Y q
 |ret v=>exact q
 |brk=>exact q
 |cont=>exact q
theorem tY(Z:PS X st t):rS X [st] t:=by
 intro pins s σ H D I h;refine Qw (eJ (Z pins s σ H D I h) fun f s1 q=>?_);cases f with
 |next=>exact Ov q
 |ret v=>exact q
 |brk=>exact q
 |cont=>exact q
theorem Inv.quiet(I:Inv X pins σ H s):interactive X.env=false:=by simp[interactive,I.ok.kind]
def Jg(te:TE):TS:=fun D σ H=>te σ H fun _ H1=>D.nx σ H1
theorem Ee(Z:PE X e te)(hs:la e none pos.line X.env=aC false:=by rfl):PS X (.Expr e pos) (Jg te):=by
 intro pins s σ H D I h;exact wpAny_Expr_any (eJ (Z pins s σ H _ I h) fun v s1 ⟨x,H1,I1,r1,q1⟩=>⟨σ,H1,I1,q1⟩) I.quiet hs
def K5(te:TE):TS:=fun D σ H=>te σ H D.rt
theorem GJ(Z:PE X e te):PS X (.Return (ar e) pos) (K5 te):=by
 intro pins s σ H D I h;exact wpAny_Return_some (eJ (Z pins s σ H _ I h) fun v s1 ⟨x,H1,I1,r1,q1⟩=>⟨x,σ,H1,I1,r1,q1⟩)
def K6(c:TT)(t u:TS):TS:=fun D σ H=>c σ H fun b H1=>if b=b_ then t D σ H1 else u D σ H1
theorem Jh(W:PT X c tc)(Z:rS X a t)(Y:rS X b u):PS X (.If c a b pos) (K6 tc t u):=by
 intro pins s σ H D I h;refine wpAny_If (eJ (W pins s σ H _ I h) fun d s1 ⟨H1,I1,q1⟩=>?_);cases d with
 |true=>exact Z pins s1 σ H1 D I1 q1
 |false=>exact Y pins s1 σ H1 D I1 q1
end
abbrev TG:=V->St->Hp->(St->Hp->Prop)->Prop
abbrev GK:=List V->St->Hp->(St->Hp->Prop)->Prop
def PG(X:Cx)(target:Expr)(t:TG):Prop:=
 ∀(pins:List (dt×Obj)) (s:c_) (σ:St) (H:Hp) (v:V) (u:a_) (Q:St->Hp->Prop),Inv X pins σ H s->RelV v u->t v σ H Q->
  er (f_ X.prog X.w) X.A (QK target X.env u) (fun _ s'=>∃ σ' H',Inv X pins σ' H' s'/\Q σ' H') X.xe s
def D5(X:Cx)(ts:List Expr)(t:GK):Prop:=
 ∀(pins:List (dt×Obj)) (s:c_) (σ:St) (H:Hp) (vs:List V) (us:List a_) (Q:St->Hp->Prop),Inv X pins σ H s->bw vs us->t vs σ H Q->
  er (f_ X.prog X.w) X.A (Q7 ((p4 ts X.env).map (·.2)) us) (fun _ s'=>∃ σ' H',Inv X pins σ' H' s'/\Q σ' H') X.xe s
abbrev GL:=V->V->V->Hp->(Hp->Prop)->Prop
def Ji(X:Cx)(t:GL):Prop:=
 ∀(pins:List (dt×Obj)) (s:c_) (σ:St) (H:Hp) (o i v:V) (ov iv u:a_) (Q:Hp->Prop),Inv X pins σ H s->RelV o ov->RelV i iv->RelV v u->t o i v H Q->
  er (f_ X.prog X.w) X.A (SH ov iv u) (fun _ s'=>∃H',Inv X pins σ H' s'/\Q H') X.xe s
section
variable {X:Cx}{pos:Pos}
def BC(i:Nat):TG:=fun v σ H Q=>Q (σ.set i (ar v)) H
theorem Ef(U:X.N.Nodup)(hi:X.N[i]? =ar x)(Z:Loc X.env.scope x)(Y:X.fn x=b_\/X.env.scope.names.lookup x=ar .local:=by first|exact .inl rfl|exact .inr rfl|assumption):PG X (.Name x pos) (BC i):=by
 intro pins s σ H v u Q I r h;exact wpAny_assign_Name (kq I U hi Z r (fun s' W=>⟨_,H,W,h⟩) Y)
def K7:GK:=fun vs σ H Q=>vs=[]/\Q σ H
def Jj(t:TG)(u:GK):GK:=fun vs σ H Q=>∃v r,vs=v::r/\t v σ H fun σ' H'=>u r σ' H' Q
theorem Eg:D5 X [] K7:=by
 intro pins s σ H vs us Q I r h;obtain⟨e,h⟩:=h;subst e;cases r;exact assignInOrder_nil ⟨σ,H,I,h⟩
theorem BD(Z:PG X e t)(Y:D5 X es u)
  (hs:(p4 (e::es) X.env).map (·.2)=QK e X.env::(p4 es X.env).map (·.2):=by rfl):D5 X (e::es) (Jj t u):=by
 intro pins s σ H vs us Q I r h;obtain⟨v,W,e1,h⟩:=h;subst e1;cases r with
 |cons r rr=>
  rw[hs];refine PP (eJ (Z pins s σ H _ _ _ I r h) fun _ s1 ⟨σ1,H1,I1,q1⟩=>?_);exact Y pins s1 σ1 H1 _ _ Q I1 rr q1
def K8(K:d_)(n:Nat)(t:GK):TG:=fun v σ H Q=>∃a xs,v= .ref a/\lJ K H a xs/\xs.length=n/\t xs σ H Q
theorem GN(O:X.calm=b_)(h:D5 X es t)
  (S:(p4 es X.env).length=n:=by rfl) (Z:(p4 es X.env).findIdx? (·.1)=none:=by rfl):PG X (.Tuple es k pos) (K8 X.K n t):=by
 intro pins s σ H v u Q I r hw;obtain⟨a,xs,e1,P,W,hw⟩:=hw;subst e1;cases r;obtain⟨its,Y,R,N⟩:=I.tuple P;refine assign_Tuple_tuple (I.ok.hd O) R (by simp[S, <-W,Y.length]) Z fun h' U=>?_
 have T:Inv X pins σ H {s with heap:=h'}:=I.kept (t':=s.toks) fun b o e=>U b o (MD (Mx e)) e;exact h pins _ σ H xs _ Q T (by simpa using Y) hw
def K9(to ti:TE)(t:GL):TG:=fun v σ H Q=>to σ H fun o H1=>ti σ H1 fun i H2=>t o i v H2 fun H3=>Q σ H3
theorem GO(Y:PE X o to)(hi:PE X i ti)(hs:Ji X t)
  (Z:∀v,QK (.Subscript o i pos) X.env v=(do
   let ov<-A' [v] (hS o X.env);let iv<-A' [v,ov] (hS i X.env)
   Sa pos
   A' [v,ov,iv] (SH ov iv v)
   release [v,ov,iv] []):=by intro _;rfl):PG X (.Subscript o i pos) (K9 to ti t):=by
 intro pins s σ H v u Q I r h;rw[Z];refine Mo (Nd (eJ (Y pins s σ H _ I h) fun ov s1 ⟨x,H1,I1,r1,q1⟩=>?_));refine Mo (Nd (eJ (hi pins s1 σ H1 _ I1 q1) fun iv s2 ⟨y,H2,I2,r2,q2⟩=>?_));refine Mo (NN (Mo (Nd (eJ (hs pins s2 σ H2 x y v ov iv u _ I2 r1 r2 r q2) fun _ s3 ⟨H3,I3,q3⟩=>?_))));exact wpAny_release ⟨σ,H3,I3,q3⟩
def GP(te:TE)(g:TG):TS:=fun D σ H=>te σ H fun x H1=>g x σ H1 D.nx
theorem GQ(Z:PE X e te)(W:PG X tg g)(hs:G_ [tg] e pos.line X.env=aC false:=by rfl)(Y:H0 [tg] e X.env=aC none:=by rfl)
  (U:(p4 [tg] X.env).map (·.2)=[QK tg X.env]:=by rfl):PS X (.Assign [tg] e pos) (GP te g):=by
 intro pins s σ H D I h;refine wpAny_Assign_stores (eJ (Z pins s σ H _ I h) fun v s1 ⟨x,H1,I1,r1,q1⟩=>?_) hs Y;rw[U];exact eJ (W pins s1 σ H1 x v _ I1 r1 q1) fun _ s2 q=>q
theorem BE(T:X.N.Nodup)(hi:X.N[i]? =ar x)(Z:Loc X.env.scope x)(Y:PE X e te)(hs:la e (ar (.Name x pos')) pos.line X.env=aC false:=by rfl)(W:X.fn x=b_\/X.env.scope.names.lookup x=ar .local:=by first|exact .inl rfl|exact .inr rfl|assumption):
  PS X (.Assign [.Name x pos'] e pos) (GP te (BC i)):=by
 intro pins s σ H D I h;refine wpAny_Assign_Name (eJ (Y pins s σ H _ I h) fun v s1 ⟨y,H1,I1,r1,q1⟩=>?_) hs;exact kq I1 T hi Z r1 (fun s2 U=>⟨_,H1,U,q1⟩) W
def La(i j:Nat)(ta:TA):TS:=fun D σ H=>ta σ H fun vs H1=>∃v w,vs=[v,w]/\D.nx ((σ.set i (ar v)).set j (ar w)) H1
theorem GS{kt k2 pt2}(F:X.calm=b_)(P:X.N.Nodup)(hi:X.N[i]? =ar x)(E:X.N[j]? =ar y)(W:i≠j)
  (R:X.env.scope.names.lookup x=ar .local) (O:X.env.scope.names.lookup y=ar .local) (K:PA X [a,b] ta)
  (L:H0 [.Tuple [.Name x px,.Name y py] kt pt] (.Tuple [a,b] k2 pt2) X.env=aC (ar [x,y]))
  (hs:G_ [.Tuple [.Name x px,.Name y py] kt pt] (.Tuple [a,b] k2 pt2) pos.line X.env=aC false:=by rfl):
  PS X (.Assign [.Tuple [.Name x px,.Name y py] kt pt] (.Tuple [a,b] k2 pt2) pos) (La i j ta):=by
 intro pins s σ H D I h;rw[exec_Assign_arm];refine Mo (NN ?_);rw[hs];refine Mo (Mr ?_);rw[if_neg (by decide)]
 refine Mo (Tuple_ (eJ (K _ pins s σ H _ I h) fun us s1 ⟨vs,H1,I1,r1,S⟩=>?_));obtain⟨v,w,e1,S⟩:=S;subst e1;obtain⟨Y,Z,rfl,B,T⟩:∃Y Z,us=[Y,Z]/\RelV v Y/\RelV w Z:=by
  cases r1 with
  | cons p q=>
   cases q with
   |cons p' q'=>
    cases q';exact⟨_,_,rfl,p,p'⟩
 refine M0 ?_ (by show 2<=sizeLine;decide)
 have J:Inv X pins σ H1 {s1 with heap:=s1.heap.push {cls:=.type "tuple",data:=.seq [Y,Z].toArray}}:=I1.kept (t':=s1.toks) fun b o e=>Mp _ e;rw[L];refine Mo (Mr ?_);show er (f_ X.prog X.w) X.A (do rule "assign.swapped-stores";let items<-unpackItems (.ref s1.heap.objs.size) 2 none;Q7 [fun v=>Rh X.env y v,fun v=>Rh X.env x v] items.reverse;aC Flow.next) _ _ _
 refine Mo (Pz (Mo (unpackItems_tuple (items:= #[Y,Z]) (I.ok.hd F) (QY s1.heap _) fun h' U=>?_)));have C:=J.kept (h':=h') (t':=s1.toks) fun b o e=>U b o (MD (Mx e)) e;show er _ _ (Q7 [fun v=>Rh X.env y v,fun v=>Rh X.env x v] [Z,Y]>>=fun _=>aC Flow.next) _ _ _;refine Mo (PP (wpAny_bindName (kq C P E (.inl O) T (fun s2 G=>?_) (.inr O))));refine PP (wpAny_bindName (kq G P hi (.inl R) B (fun s3 Q=>assignInOrder_nil (Mr ?_)) (.inr R)));rw[List.set_comm _ _ (kr W)]at Q;exact⟨_,H1,Q,S⟩
end
section
variable {X:Cx}{pos:Pos}
def GT(c:TT)(tb:TS):TS:=fun D σ H=>∃W:Nat->St->Hp->Prop,(∃m,W m σ H)/\∀m σ H,W m σ H->
 c σ H fun b H1=>if b=b_ then ∃N:St->Hp->Prop,(∀ σ' H',N σ' H'->∃m',m'<m/\W m' σ' H')/\tb {D with nx:=N,ct:=N,bk:=D.nx} σ H1 else D.nx σ H1
theorem BF{c:Expr}{body:List ri}{O:TT}{tb:TS}(K:QZ (f_ X.prog X.w) X.A X.env X.xe)(G:PT X c O)(J:rS X body tb):PS X (.While c body [] pos) (GT O tb):=by
 intro pins s σ H D I h;obtain⟨W,⟨m0,F⟩,turn⟩:=h;refine wpAny_While (codeAny_whileLoop (fun n s'=>∃ σ' H',Inv X pins σ' H' s'/\W n σ' H') ?_ m0 ⟨σ,H,I,F⟩);rintro n s1 ⟨σ1,H1,I1,w1⟩;refine Oa K (eJ (G pins s1 σ1 H1 _ I1 (turn n σ1 H1 w1)) fun b s2 ⟨H2,I2,U⟩=>?_);cases b with
 | true=>
  obtain⟨N,L,U⟩:=U;rw[if_pos rfl];refine Oa K (eJ (J pins s2 σ1 H2 _ I2 U) fun f s3 T=>?_);cases f with
  |next=>
   obtain⟨Z,Y,S,P⟩:=T;obtain⟨Q,hm,R⟩:=L Z Y P;exact⟨Q,hm,Z,Y,S,R⟩
  |cont=>
   obtain⟨Z,Y,S,P⟩:=T;obtain⟨Q,hm,R⟩:=L Z Y P;exact⟨Q,hm,Z,Y,S,R⟩
  |brk=>exact T
  |ret v=>exact T
 |false=>
  rw[if_neg NT];exact Ov ⟨σ1,H2,I2,U⟩
end
structure It where
 go:Nat->Hp->Prop
 yld:Nat->Hp->V->Hp->Prop
 stop:Nat->Hp->Prop
def nQ(X:Cx)(pins:List (dt×Obj))(H:Hp)(b:dt):Prop:=
 H b=none/\b≠X.env.locals/\b∉X.fs/\(b∈X.ex\/X.s₀.heap.objs.size<=b)/\(∀x c,X.env.cells.lookup x=ar c->c≠b)/\∀p∈X.pn++pins,p.1≠b
theorem Inv.fpOk{Y:Hp}(I:Inv X pins σ H s)(Z:s.heap.objs.size<=b)(U:Y b=none):nQ X pins Y b:=by
 refine⟨U,NZ (MG I.lt Z),I.nofs Z,.inr (ME I.sz Z),fun x c e z=>?_,fun p W z=>?_⟩
 ·obtain⟨v,q⟩:=I.cell x c e;exact absurd (MG q.lt (by rw[z];exact Z)) (NW _)
 ·exact absurd (MG (Mx (I.pin p W).1) (by rw[z];exact Z)) (NW _)
structure Turn(P:eM)(w:fg)(K:d_)(tg:Expr)(J:It)(fp:List dt)(it:dt)(tn:Nat->gd->Prop):Prop where
 mem:it∈fp
 obj:∀i h,tn i h->∀b∈fp,∃o,h.get? b=ar o/\∀v,o.data≠ .cell v
 keep:∀i h h',tn i h->(∀b∈fp,∀o,h.get? b=ar o->h'.get? b=ar o)->tn i h'
 item:∀(X:Cx),X.prog=P->X.w=w->X.K=K->X.calm=b_->∀(i:Nat) (pins:List (dt×Obj)) (s:c_) (σ:St) (H:Hp) (E:a_->c_->Prop),Inv X pins σ H s->(∀b∈fp,nQ X pins H b)->tn i s.heap->J.go i H->
  er (f_ P w) X.A (z7 (.ref it)) (fun r s1=>∃u,r=ar u/\
   er (f_ P w) X.A (M' tg (.ref it) u) (fun _ s2=>∃x H',Inv X pins σ H' s2/\RelV x u/\J.yld i H x H'/\tn (i+1) s2.heap/\∀b∈fp,H' b=none) E s1) E s
 done:∀(X:Cx),X.prog=P->X.w=w->X.K=K->X.calm=b_->∀(i:Nat) (pins:List (dt×Obj)) (s:c_) (σ:St) (H:Hp) (E:a_->c_->Prop),Inv X pins σ H s->(∀b∈fp,nQ X pins H b)->tn i s.heap->J.stop i H->
  er (f_ P w) X.A (z7 (.ref it)) (fun r s1=>r=none/\Inv X pins σ H s1) E s
 self:∀(A:hI) (i:Nat) (s:c_) (Q:a_->c_->Prop) (E:a_->c_->Prop),tn i s.heap->Q (.ref it) s->er (f_ P w) A (RN (.ref it)) Q E s
abbrev TI:=St->Hp->(It->Hp->Prop)->Prop
def LQ(X:Cx)(pins:List (dt×Obj))(σ:St)(tg:Expr)(R:It->Hp->Prop)(itv:a_)(s2:c_):Prop:=
 ∃(it:dt) (fp:List dt) (tn:Nat->gd->Prop) (J:It) (H':Hp),itv= .ref it/\Inv X pins σ H' s2/\Turn X.prog X.w X.K tg J fp it tn/\tn 0 s2.heap/\(∀b∈fp,nQ X pins H' b)/\R J H'
def PI(X:Cx)(tg iter:Expr)(wi:TI):Prop:=
 ∀(pins:List (dt×Obj)) (s:c_) (σ:St) (H:Hp) (R:It->Hp->Prop),Inv X pins σ H s->wi σ H R->
  er (f_ X.prog X.w) X.A (hS iter X.env) (fun v s1=>er (f_ X.prog X.w) X.A (RN v) (LQ X pins σ tg R) X.xe s1) X.xe s
theorem BG{s:c_}{Q:Unit->c_->Prop}(U:s.heap.get? it=ar o)(Y:o.cls= .type n)(X:o.data= .fields vs)
    (W:["enumerate","zip","dict_itemiterator","dict_reverseitemiterator","odict_iterator","itertools.zip_longest","itertools.pairwise"].contains n=dV) (Z:Q () s):er M A (M' tg (.ref it) u) Q E s:=by
  unfold M';cases tg <;>first
    |exact Mr Z
    |(cases u<;>first
        |exact Mr Z
        | (refine Mo (wpAny_load U ?_)
           rw[Y,X];show er M A (if (["enumerate","zip","dict_itemiterator","dict_reverseitemiterator","odict_iterator","itertools.zip_longest","itertools.pairwise"].contains n && vs[0]? ==ar (mv _))=b_ then _ else _) Q E s;rw[if_neg (by intro h;rw[W,NA]at h;cases h)]
           exact Mr Z))
def Ku(K:d_)(a:dt):It:=
 ⟨fun i H=>∃xs x,kY K H a xs/\xs[i]? =ar x,fun i H x H'=>H'=H/\∀xs,kY K H a xs->xs[i]? =ar x,fun i H=>∃xs,kY K H a xs/\xs.length<=i⟩
def Lc(K:d_)(a:dt):It:=
 ⟨fun i H=>∃xs x,lJ K H a xs/\xs[i]? =ar x,fun i H x H'=>H'=H/\∀xs,lJ K H a xs->xs[i]? =ar x,fun i H=>∃xs,lJ K H a xs/\xs.length<=i⟩
def Jk(lo:Int)(n:Nat):It:=⟨fun i _=>i<n,fun i H x H'=>H'=H/\x= .int (lo+i),fun i _=>n<=i⟩
theorem Ai{P:eM}{w:fg}{K:d_}{y:Expr}(a it:dt):Turn P w K y (Ku K a) [it] it (fun i h=>h.IsListIter it a i) where
 mem:=by simp
 obj:=fun i h st b Z=>by
  have e:b=it:=by simpa using Z
  subst e;obtain⟨o,e,c,d⟩:=st;exact⟨o,e,fun v z=>by rw[d]at z;cases z⟩
 keep:=fun i h h' st k=>st.at fun o e=>k it (by simp) o e
 item:=by
  intro X O hw N J i pins s σ H E I hf st R;subst O hw N;obtain⟨xs,x,U,T⟩:=R;obtain⟨its,S,p,A⟩:=I.list U;obtain⟨u,G,F⟩:=S.get T;obtain⟨f0,f1,f2,Q,f4,L⟩:=hf it (by simp)
  refine wpAny_pyNext_list_item st p.isList (x:=u) (by simpa using G) fun h' Y B=>?_
  have C:Inv X pins σ H {s with heap:=h'}:=I.turned (t':=s.toks) (fun b o Z e=>(B.2 b Z).trans e) f0 f1 Q f4 L;obtain⟨o,e,c,d⟩:=id Y;exact⟨u,rfl,BG (s:={s with heap:=h'}) e c d (by decide) ⟨x,H,C,F,⟨rfl,fun ys r=>by rw[I.list_inj r U];exact T⟩,Y,fun b Z=>(hf b Z).1⟩⟩
 done:=by
  intro X O hw N J i pins s σ H E I hf st R;subst O hw N;obtain⟨xs,U,T⟩:=R;obtain⟨its,S,p,A⟩:=I.list U;obtain⟨f0,f1,f2,Q,f4,L⟩:=hf it (by simp)
  have q:=S.length;exact wpAny_pyNext_list_end (I.ok.hd J) st p.isList (by simp;omega) fun h' t=>⟨rfl,I.turned (t':=s.toks) (fun b o Z e=>t b o Z e) f0 f1 Q f4 L⟩
 self:=fun _ _ _ _ _ st h=>wpAny_pyIter_listiter st h
theorem xp{P:eM}{w:fg}{K:d_}{y:Expr}(a it:dt):Turn P w K y (Lc K a) [it] it (fun i h=>h.IsTupleIter it a i) where
 mem:=by simp
 obj:=fun i h st b Z=>by
  have e:b=it:=by simpa using Z
  subst e;obtain⟨o,e,c,d⟩:=st;exact⟨o,e,fun v z=>by rw[d]at z;cases z⟩
 keep:=fun i h h' st k=>st.at fun o e=>k it (by simp) o e
 item:=by
  intro X O hw N J i pins s σ H E I hf st R;subst O hw N;obtain⟨xs,x,U,T⟩:=R;obtain⟨its,S,p,A⟩:=I.tuple U;obtain⟨u,G,F⟩:=S.get T;obtain⟨f0,f1,f2,Q,f4,L⟩:=hf it (by simp)
  refine wpAny_pyNext_tuple_item st (show s.heap.IsTuple a its.toArray from p) (x:=u) (by simpa using G) fun h' Y B=>?_
  have C:Inv X pins σ H {s with heap:=h'}:=I.turned (t':=s.toks) (fun b o Z e=>(B.2 b Z).trans e) f0 f1 Q f4 L;obtain⟨o,e,c,d⟩:=id Y;exact⟨u,rfl,BG (s:={s with heap:=h'}) e c d (by decide) ⟨x,H,C,F,⟨rfl,fun ys r=>by rw[I.tuple_inj r U];exact T⟩,Y,fun b Z=>(hf b Z).1⟩⟩
 done:=by
  intro X O hw N J i pins s σ H E I hf st R;subst O hw N;obtain⟨xs,U,T⟩:=R;obtain⟨its,S,p,A⟩:=I.tuple U;obtain⟨f0,f1,f2,Q,f4,L⟩:=hf it (by simp)
  have q:=S.length;exact wpAny_pyNext_tuple_end (I.ok.hd J) st (show s.heap.IsTuple a its.toArray from p) (by simp;omega) fun h' t=>⟨rfl,I.turned (t':=s.toks) (fun b o Z e=>t b o Z e) f0 f1 Q f4 L⟩
 self:=fun _ _ _ _ _ st h=>wpAny_pyIter_tupleiter st h
theorem xq{P:eM}{w:fg}{K:d_}{G:Expr}(it:dt)(lo:Int)(n:Nat):Turn P w K G (Jk lo n) [it] it (fun i h=>IsRangeIter h it (lo+(i:Nat)*1) ((n:Int) - (i:Nat)) 1) where
 mem:=by simp
 obj:=fun i h st b Z=>by
  have e:b=it:=by simpa using Z
  subst e;exact⟨_,st,fun v z=>by
   have C:Data.fields _=Data.cell v:=z;cases C⟩
 keep:=fun i h h' st k=>k it (by simp) _ st
 item:=by
  intro X R hw Q U i pins s σ H E I hf st T;subst R hw Q;obtain⟨f0,f1,f2,S,f4,O⟩:=hf it (by simp)
  have W:=Walks.range (prog:=X.prog) (w:=X.w) (I.ok.hd U) it lo 1 n;refine W.item i s _ _ T st fun v h' N J Y B=>?_;obtain⟨t,rfl⟩:=J;have L:Inv X pins σ H {s with heap:=h',toks:=N}:=I.turned (fun b o Z e=>B b o (by simpa using Z) e) f0 f1 S f4 O
  refine⟨_,rfl,BG (s:={s with heap:=h',toks:=N}) (n:="range_iterator") Y rfl rfl (by decide) ⟨.int (lo+i),H,L,⟨t,?_⟩,⟨rfl,rfl⟩,Y,fun b Z=>(hf b Z).1⟩⟩
  rw[Int.mul_one]
 done:=by
  intro X R hw Q U i pins s σ H E I hf st T;subst R hw Q;obtain⟨f0,f1,f2,S,f4,O⟩:=hf it (by simp)
  exact wpAny_pyNext_range_end (I.ok.hd U) st (by have:n<=i:=T;omega) fun h' F=>⟨rfl,I.turned (t':=s.toks) (fun b o Z e=>F b o Z e) f0 f1 S f4 O⟩
 self:=fun _ _ _ _ _ st h=>wpAny_pyIter_rangeiter st h
end L2
namespace L2
open PySem PySem.Spec PyProof.Rows
section
variable {X:Cx}{tg:Expr}
def Jl(K:d_)(tl:TE):TI:=fun σ H R=>tl σ H fun x H1=>∃a,x= .ref a/\(∃xs,kY K H1 a xs)/\R (Ku K a) H1
def Ld(K:d_)(tl:TE):TI:=fun σ H R=>tl σ H fun x H1=>∃a,x= .ref a/\(∃xs,lJ K H1 a xs)/\R (Lc K a) H1
theorem mM{l:Expr}{Z:TE}(Y:PE X l Z):PI X tg l (Jl X.K Z):=by
 intro pins s σ H R I h;refine eJ (Y pins s σ H _ I h) fun v s1 ⟨x,H1,I1,r1,q1⟩=>?_;obtain⟨a,e,⟨xs,U⟩,q⟩:=q1;subst e;cases r1;obtain⟨its,S,p,T⟩:=I1.list U;refine P7 p.isList ?_;refine⟨s1.heap.objs.size,[s1.heap.objs.size],_,_,H1,rfl,I1.kept (t':=s1.toks) fun b o e=>Mp _ e,Ai a _,⟨_,Mz _ rfl,rfl,rfl⟩,fun b W=>?_,q⟩;have e:b=s1.heap.objs.size:=by simpa using W
 subst e;exact I1.fpOk (Ms _) (I1.hok.fresh (Ms _))
theorem GU{l:Expr}{Z:TE}(Y:PE X l Z):PI X tg l (Ld X.K Z):=by
 intro pins s σ H R I h;refine eJ (Y pins s σ H _ I h) fun v s1 ⟨x,H1,I1,r1,q1⟩=>?_;obtain⟨a,e,⟨xs,U⟩,q⟩:=q1;subst e;cases r1;obtain⟨its,S,p,T⟩:=I1.tuple U;refine NU (show s1.heap.IsTuple a its.toArray from p) ?_;refine⟨s1.heap.objs.size,[s1.heap.objs.size],_,_,H1,rfl,I1.kept (t':=s1.toks) fun b o e=>Mp _ e,xp a _,⟨_,Mz _ rfl,rfl,rfl⟩,fun b W=>?_,q⟩;have e:b=s1.heap.objs.size:=by simpa using W
 subst e;exact I1.fpOk (Ms _) (I1.hok.fresh (Ms _))
theorem vG{Z:List (dt×Obj)}{Y:St}{H:Hp}{s:c_}{R:It->Hp->Prop}{E:a_->c_->Prop}{lo hi:Int}{t u v:Tok}{W:Nat}(I:Inv X Z Y H s)(T: -(2 ^ 62)<=lo)(S:lo<2 ^ 62)(Q: -(2 ^ 62)<=hi)(P:hi<2 ^ 62)
  (q:R (Jk lo (hi - lo).toNat) H):er (f_ X.prog X.w) X.A (RN (.ref s.heap.objs.size)) (LQ X Z Y tg R) E {s with heap:=s.heap.push {cls:=.type "range",data:=.fields #[.int lo t,.int hi u,.int 1 v]},toks:=W}:=by
 refine wpAny_pyIter_range (IsRange.new ..) (small_one T S Q P) ?_;have U:Inv X Z Y H {s with heap:=s.heap.push {cls:=.type "range",data:=.fields #[.int lo t,.int hi u,.int 1 v]},toks:=W}:=I.kept fun b o e=>Mp _ e;refine⟨(s.heap.push {cls:=.type "range",data:=.fields #[.int lo t,.int hi u,.int 1 v]}).objs.size,[(s.heap.push {cls:=.type "range",data:=.fields #[.int lo t,.int hi u,.int 1 v]}).objs.size],_,_,H,rfl,
  U.kept (t':=W) fun b o e=>Mp _ e,xq _ lo (hi - lo).toNat,?_,fun b O=>?_,q⟩
 ·have e1:lo+((0:Nat):Int)*1=lo:=by simp
  have e2:(((hi - lo).toNat:Nat):Int) - ((0:Nat):Int)=Builtin.Range.rangeSize lo hi 1:=by rw[rangeSize_one];split<;>omega
  show IsRangeIter _ _ (lo+((0:Nat):Int)*1) ((((hi - lo).toNat:Nat):Int) - ((0:Nat):Int)) 1;rw[e1,e2];exact Mz _ rfl
 ·have e:b=(s.heap.push {cls:=.type "range",data:=.fields #[.int lo t,.int hi u,.int 1 v]}).objs.size:=by simpa using O
  subst e;exact U.fpOk (Ms _) (U.hok.fresh (Ms _))
def Jm(ta:TA):TI:=fun σ H R=>ta σ H fun vs H1=>∃j:Int,vs=[.int j]/\ -(2 ^ 62)<=j/\j<2 ^ 62/\R (Jk 0 j.toNat) H1
def Jn(ta:TA):TI:=fun σ H R=>ta σ H fun vs H1=>∃i j:Int,vs=[.int i,.int j]/\(-(2 ^ 62)<=i/\i<2 ^ 62/\ -(2 ^ 62)<=j/\j<2 ^ 62)/\R (Jk i (j - i).toNat) H1
theorem Aj{a:Expr}{Y:TA}{p pos:Pos}(S:Gl X "range")(T:X.mg "range"=none)(U:PA X [a] Y)(hs:ee [a] X.env=[(dV,hS a X.env)]:=by rfl):PI X tg (.Call (.Name "range" p) [a] [] pos) (Jm Y):=by
 intro pins s σ H R I h;refine SU (lY I S T boot_range (ND (eJ (U pos pins s σ H _ I h) fun us s1 ⟨vs,H1,I1,r1,Z⟩=>?_) hs rfl));obtain⟨j,e,Z,W,q⟩:=Z;subst e;cases r1 with
 |cons r rr=>
  cases rr;obtain⟨t,rfl⟩:=r;exact call_range_1 (vG I1 (by omega) (by omega) Z W (by simpa using q))
theorem Ak(P:Gl X "range")(S:X.mg "range"=none)(U:PA X [a,b] ta)(hs:ee [a,b] X.env=[(dV,hS a X.env),(dV,hS b X.env)]:=by rfl)(Z:ee [b] X.env=[(dV,hS b X.env)]:=by rfl):
  PI X tg (.Call (.Name "range" p) [a,b] [] pos) (Jn ta):=by
 intro pins s σ H R I h;refine SU (lY I P S boot_range (ND (eJ (U pos pins s σ H _ I h) fun us s1 ⟨vs,H1,I1,r1,Y⟩=>?_) (by rw[hs,Z]) (by rw[Z];rfl)))
 obtain⟨i,j,e,⟨Y,W,T,Q⟩,q⟩:=Y;subst e;cases r1 with
 | cons r rr=>
  cases rr with
  |cons r' rr=>
   cases rr;obtain⟨t,rfl⟩:=r;obtain⟨t',rfl⟩:=r';exact call_range_2 (vG I1 Y W T Q q)
def Le(wi:TI)(g:TG)(tb:TS):TS:=fun D σ H=>wi σ H fun J H1=>∃W:Nat->Nat->St->Hp->Prop,(∃m,W 0 m σ H1)/\∀i m σ H,W i m σ H->
 (J.stop i H/\D.nx σ H)\/(J.go i H/\∃N:St->Hp->Prop,(∀ σ' H',N σ' H'->∃m',m'<m/\W (i+1) m' σ' H')/\∀x H',J.yld i H x H'->g x σ H' fun σ2 H2=>tb {D with nx:=N,ct:=N,bk:=D.nx} σ2 H2)
def pT(fp:List dt)(h:gd):List (dt×Obj):=fp.filterMap fun b=>(h.get? b).map fun o=>(b,o)
theorem jL{h:gd}(Z:b∈fp)(e:h.get? b=ar o):(b,o)∈pT fp h:=NS.mpr ⟨b,Z,by rw[e];rfl⟩
theorem Al(Z:p∈pT fp h):p.1∈fp/\h.get? p.1=ar p.2:=by
 obtain⟨b,W,e⟩:=NS.mp Z;cases q:h.get? b with
 |none=>rw[q]at e;cases e
 |some o=>
  rw[q]at e;have Y:(b,o)=p:=MS e;subst Y;exact⟨W,q⟩
theorem Inv.pinned(I:Inv X pins σ H s)(U:∀b∈fp,nQ X pins H b)(W:∀b∈fp,∃o,s.heap.get? b=ar o/\∀v,o.data≠ .cell v):Inv X (pins++pT fp s.heap) σ H s:=
 I.pins_of fun p T=>(NQ.mp T).elim (fun z=>I.pin p (MX _ z)) fun z=>by
  obtain⟨Y,e⟩:=Al z;obtain⟨f0,f1,f2,_⟩:=U p.1 Y;obtain⟨o,Z,d⟩:=W p.1 Y;rw[e]at Z;cases Z;exact⟨e,f0,f1,f2,d⟩
theorem Inv.unpinned(I:Inv X (pins++pl) σ H s):Inv X pins σ H s:=I.pins_of fun p Z=>I.pin p (MX _ (OL _ Z))
theorem GV{Q:Expr}{body:List ri}{z:TI}{g:TG}{tb:TS}{pos:Pos}(L:QZ (f_ X.prog X.w) X.A X.env X.xe)(C:X.calm=b_)(hi:PI X tg Q z)(l:PG X tg g)(U:rS X body tb)
  (hs:∀x,n3 Q X.env x=aC x:=by intro _;rfl):PS X (.For tg Q body [] pos) (Le z g tb):=by
 intro pins s σ H D I h;refine wpAny_For (eJ (hi pins s σ H _ I h) fun v s1 k=>eJ k fun c s2 t=>?_) hs;obtain⟨it,K,B,J,p,e,y,T,E,f2,W,⟨m0,w0⟩,turn⟩:=t;subst e;have S:∀{H':Hp},(∀b∈K,H' b=none)->∀b∈K,nQ X pins H' b:=fun j b U=>⟨j b U,(f2 b U).2⟩;refine codeAny_forLoop_any (fun n s'=>∃i σ' H',Inv X pins σ' H' s'/\B i s'.heap/\(∀b∈K,H' b=none)/\W i n σ' H') ?_ m0 ⟨0,σ,p,y,E,fun b U=>(f2 b U).1,w0⟩;rintro n s3 ⟨i,σ3,H3,I3,st3,fr3,w3⟩;rcases turn i n σ3 H3 w3 with⟨stop,qn⟩|⟨go,N,hN,step⟩
 ·refine Oa L (eJ (T.done X rfl rfl rfl C i pins s3 σ3 H3 X.xe I3 (S fr3) st3 stop) fun r s4 ⟨hr,I4⟩=>?_);subst hr;exact Ov ⟨σ3,H3,I4,qn⟩
 ·refine Oa L (eJ (T.item X rfl rfl rfl C i pins s3 σ3 H3 X.xe I3 (S fr3) st3 go) fun r s4 ⟨u,hr,h4⟩=>?_);subst hr;refine Oa L (eJ h4 fun _ s5 ⟨x,H5,I5,r5,y5,st5,fr5⟩=>?_);have F:=I5.pinned (S fr5) (T.obj _ _ st5);refine Oa L (eJ (l _ s5 σ3 H5 x u _ F r5 (step x H5 y5)) fun _ s6 ⟨σ6,H6,I6,q6⟩=>?_);refine Oa L (eJ (U _ s6 σ6 H6 _ I6 q6) fun f G P=>?_);have RO:∀{Z:St} {R:Hp},Inv X (pins++pT K s5.heap) Z R G->N Z R->∃m,m<n/\∃i σ' H',Inv X pins σ' H' G/\B i G.heap/\(∀b∈K,H' b=none)/\W i m σ' H':=fun{Z R} Y O=>by
   obtain⟨q,hm,a⟩:=hN Z R O;refine⟨q,hm,i+1,Z,R,Y.unpinned,T.keep _ _ _ st5 fun b U o e=>(Y.pin (b,o) (MX _ (MX _ (jL U e)))).1,fun b U=>?_,a⟩;obtain⟨o,e,d⟩:=T.obj _ _ st5 b U;exact(Y.pin (b,o) (MX _ (MX _ (jL U e)))).2.1
  cases f with
  |next=>obtain⟨Z,R,Y,O⟩:=P;exact RO Y O
  |cont=>obtain⟨Z,R,Y,O⟩:=P;exact RO Y O
  |brk=>obtain⟨Z,R,Y,P⟩:=P;exact⟨Z,R,Y.unpinned,P⟩
  |ret v=>obtain⟨x7,Z,R,Y,r7,P⟩:=P;exact⟨x7,Z,R,Y.unpinned,r7,P⟩
end
end L2
namespace L2
open PySem PySem.Spec PyProof.Rows
abbrev R2:=V->V->Hp->VK->Prop
def jz(X:Cx)(f:a_->a_->Sem a_)(r:R2):Prop:=
 ∀(pins:List (dt×Obj)) (s:c_) (σ:St) (H:Hp) (x y:V) (v u:a_) (Q:VK),Inv X pins σ H s->RelV x v->RelV y u->r x y H Q->
  er (f_ X.prog X.w) X.A (f v u) (EP X pins σ Q) X.xe s
def Lf(X:Cx)(f:a_->Sem a_)(r:V->Hp->VK->Prop):Prop:=
 ∀(pins:List (dt×Obj)) (s:c_) (σ:St) (H:Hp) (x:V) (v:a_) (Q:VK),Inv X pins σ H s->RelV x v->r x H Q->
  er (f_ X.prog X.w) X.A (f v) (EP X pins σ Q) X.xe s
def ef(X:Cx)(f:a_)(r:List V->Hp->VK->Prop):Prop:=
 ∀(pins:List (dt×Obj)) (s:c_) (σ:St) (H:Hp) (xs:List V) (us:List a_) (Q:VK),Inv X pins σ H s->bw xs us->r xs H Q->
  er (f_ X.prog X.w) X.A (call f us) (EP X pins σ Q) X.xe s
def Jo(r:R2)(ta tb:TE):TE:=fun σ H Q=>ta σ H fun x H1=>tb σ H1 fun y H2=>r x y H2 Q
def Ma(r:V->Hp->VK->Prop)(ta:TE):TE:=fun σ H Q=>ta σ H fun x H1=>r x H1 Q
def rI(C:Int->Int->Prop)(g:Int->Int->V):R2:=fun x y H Q=>∃i j,x= .int i/\y= .int j/\C i j/\Q (g i j) H
def D6(g:Int->Int->V):R2:=fun x y H Q=>∃i j,x= .int i/\y= .int j/\Q (g i j) H
def rU(g:Int->V):V->Hp->VK->Prop:=fun x H Q=>∃i,x= .int i/\Q (g i) H
section
variable {X:Cx}{a b c:Expr}{ta tb tc:TE}{pos:Pos}
theorem GW(T:PE X a ta)(P:PE X b tb){R:V->V->Hp->Prop}(I:Inv X pins σ H s)
  (h:ta σ H fun x U=>tb σ U fun y Z=>R x y Z) {f:a_->a_->Sem a_}
  (S:∀v u s2 x y Z,Inv X pins σ Z s2->RelV x v->RelV y u->R x y Z->er (f_ X.prog X.w) X.A (f v u) Q X.xe s2):
  er (f_ X.prog X.w) X.A (hS a X.env) (fun v Y=>er (f_ X.prog X.w) X.A (hS b X.env) (fun u W=>er (f_ X.prog X.w) X.A (f v u) Q X.xe W) X.xe Y) X.xe s:=by
 refine eJ (T pins s σ H _ I h) fun v s1 ⟨x,U,I1,r1,q1⟩=>?_;refine eJ (P pins s1 σ U _ I1 q1) fun u s2 ⟨y,Z,I2,r2,q2⟩=>?_;exact S v u s2 x y Z I2 r1 r2 q2
theorem Jp(W:jz X (t8 op) r)(Z:PE X a ta)(T:PE X b tb):PE X (.BinOp a op b pos) (Jo r ta tb):=by
 intro pins s σ H Q I h;exact wpAny_BinOp (GW Z T I h fun v u s2 x y S Y U R q=>W pins s2 σ S x y v u Q Y U R q)
theorem FV(Y:Lf X (unaryOp op) r)(Z:PE X a ta):PE X (.UnaryOp op a pos) (Ma r ta):=by
 intro pins s σ H Q I h;exact UnaryOp_ (eJ (Z pins s σ H _ I h) fun v s1 ⟨x,H1,I1,r1,q1⟩=>Y pins s1 σ H1 x v Q I1 r1 q1)
theorem Kv{f:a_->a_->Sem a_}{C:Int->Int->Prop}{g:Int->Int->Int}
  (Z:∀(i j:Int) (t u:Tok) (s:c_) (Q:a_->c_->Prop) (E:a_->c_->Prop),C i j->Q (.int (g i j) s.toks) {s with toks:=s.toks+1}->er (f_ X.prog X.w) X.A (f (.int i t) (.int j u)) Q E s):
  jz X f (rI C fun i j=>.int (g i j)):=by
 intro pins s σ H x y v u Q I Y U h;obtain⟨i,j,rfl,rfl,W,q⟩:=h;obtain⟨t,rfl⟩:=Y;obtain⟨t',rfl⟩:=U;exact Z i j t t' s _ _ W ⟨.int (g i j),H,I.tok _,⟨_,rfl⟩,q⟩
theorem Jq{f:a_->a_->Sem a_}{g:Int->Int->Int}
  (Z:∀(i j:Int) (t u:Tok) (s:c_) (Q:a_->c_->Prop) (E:a_->c_->Prop),Q (.int (g i j) s.toks) {s with toks:=s.toks+1}->er (f_ X.prog X.w) X.A (f (.int i t) (.int j u)) Q E s):
  jz X f (D6 fun i j=>.int (g i j)):=by
 intro pins s σ H x y v u Q I Y W h;obtain⟨i,j,rfl,rfl,q⟩:=h;obtain⟨t,rfl⟩:=Y;obtain⟨t',rfl⟩:=W;exact Z i j t t' s _ _ ⟨.int (g i j),H,I.tok _,⟨_,rfl⟩,q⟩
theorem Eh{f:a_->a_->Sem a_}{g:Int->Int->Bool}
  (Z:∀(i j:Int) (t u:Tok) (s:c_) (Q:a_->c_->Prop) (E:a_->c_->Prop),Q (.bool (g i j)) s->er (f_ X.prog X.w) X.A (f (.int i t) (.int j u)) Q E s):
  jz X f (D6 fun i j=>.bl (g i j)):=by
 intro pins s σ H x y v u Q I Y W h;obtain⟨i,j,rfl,rfl,q⟩:=h;obtain⟨t,rfl⟩:=Y;obtain⟨t',rfl⟩:=W;exact Z i j t t' s _ _ ⟨.bl (g i j),H,I,rfl,q⟩
def xr(i j:Int):Prop:=0<j/\j<1073741824
def BH(i j:Int):Prop:=0<=j/\j<=1000000/\i.natAbs<2 ^ 64
def xt(i j:Int):Prop:=(-(2 ^ 64)<i/\i<2 ^ 64)\/(-(2 ^ 64)<j/\j<2 ^ 64)
theorem xt.ok{i j:Int}(h:xt i j):IntMulOk i j:=by
 rcases h with⟨h1,h2⟩|⟨h1,h2⟩
 ·exact .of_left (intBits_le_64 h1 h2)
 ·exact .of_right (intBits_le_64 h1 h2)
theorem GX:jz X (t8 .Add) (D6 fun i j=>.int (i+j)):=Jq fun _ _ _ _ _ _ _ q=>add_int q
theorem GY:jz X (t8 .Sub) (D6 fun i j=>.int (i - j)):=Jq fun _ _ _ _ _ _ _ q=>sub_int q
theorem GZ:jz X (t8 .Mult) (rI xt fun i j=>.int (i*j)):=Kv fun _ _ _ _ _ _ _ Z q=>mul_int q Z.ok
theorem Ei:jz X (t8 .FloorDiv) (rI xr fun i j=>.int (i / j)):=Kv fun i j _ _ _ _ _ Z q=>by
 have Y:(0:Int)<j:=Z.1;have W:j<1073741824:=Z.2;exact floordiv_int (by omega) (by rw[Int.fdiv_eq_ediv_of_nonneg i (by omega)];exact q) (.inl (PyProof.noPylong_small (by omega)))
theorem G0:jz X (t8 .Mod) (rI (fun _ j=>0<j) fun i j=>.int (i % j)):=Kv fun i j _ _ _ _ _ Z q=>by
 have Y:(0:Int)<j:=Z;exact mod_int' (by omega) (by rw[Int.fmod_eq_emod_of_nonneg i (by omega)];exact q)
theorem G1:jz X (t8 .Pow) (rI BH fun i j=>.int (i ^ j.toNat)):=Kv fun _ _ _ _ _ _ _ Z q=>pow_int_small Z.1 Z.2.1 Z.2.2 q
theorem Mb{f:a_->Sem a_}{g:Int->Int}
  (Z:∀(i:Int) (t:Tok) (s:c_) (Q:a_->c_->Prop) (E:a_->c_->Prop),Q (.int (g i) s.toks) {s with toks:=s.toks+1}->er (f_ X.prog X.w) X.A (f (.int i t)) Q E s):
  Lf X f (rU fun i=>.int (g i)):=by
 intro pins s σ H x v Q I Y h;obtain⟨i,rfl,q⟩:=h;obtain⟨t,rfl⟩:=Y;exact Z i t s _ _ ⟨.int (g i),H,I.tok _,⟨_,rfl⟩,q⟩
theorem BI:Lf X (unaryOp .USub) (rU fun i=>.int (-i)):=Mb fun _ _ _ _ _ q=>neg_int q
end
section
variable {X:Cx}{a b c:Expr}{ta tb tc:TE}{pos:Pos}
theorem G5{Q:VK}(I:Inv X pins σ H s)(q:Q (.bl k) H)(e:k=k'):EP X pins σ Q (.bool k') s:=by
 subst e;exact⟨.bl k,H,I,rfl,q⟩
theorem BJ:jz X (j_ .Lt) (D6 fun i j=>.bl (decide (i<j))):=Eh fun _ _ _ _ _ _ _ q=>lt_int q
theorem BK:jz X (j_ .LtE) (D6 fun i j=>.bl (decide (i<=j))):=Eh fun _ _ _ _ _ _ _ q=>le_int q
theorem Jr:jz X (j_ .Gt) (D6 fun i j=>.bl (decide (j<i))):=Eh fun _ _ _ _ _ _ _ q=>gt_int q
theorem Js:jz X (j_ .GtE) (D6 fun i j=>.bl (decide (j<=i))):=Eh fun _ _ _ _ _ _ _ q=>ge_int q
theorem Ej:jz X (j_ .IsNot) (fun x y H Q=>y= .non/\Q (.bl (!decide (x= .non))) H):=by
 intro pins s σ H x y v u Q I Z Y h;obtain⟨rfl,q⟩:=h;cases Y;refine isnot_none_gen (G5 I q ?_);cases x<;>first
  |(cases Z;rfl)
  |(obtain⟨t,rfl⟩:=Z;rfl)
theorem jz.or{r Y:R2}(h:jz X f r)(h':jz X f Y):jz X f (fun x y H Q=>r x y H Q\/Y x y H Q):=by
 intro pins s σ H x y v u Q I Z W q;rcases q with q|q
 ·exact h pins s σ H x y v u Q I Z W q
 ·exact h' pins s σ H x y v u Q I Z W q
theorem Lg(b:Expr)(h:op≠ .In:=by decide)(Z:op≠ .NotIn:=by decide):mh op b=false:=by
 have e1:(op==CmpOp.In)=false:=by cases op<;>first|rfl|exact absurd rfl h
 have e2:(op==CmpOp.NotIn)=false:=by cases op<;>first|rfl|exact absurd rfl Z
 cases b<;>simp[mh,e1,e2]
theorem El(W:jz X (j_ op) r)(Z:PE X a ta)(S:PE X b tb)(T:mh op b=dV):PE X (.Compare a [op] [b] pos) (Jo r ta tb):=by
 intro pins s σ H Q I h;exact wpAny_Compare1 (GW Z S I h fun v u s2 x y R Y U P q=>W pins s2 σ R x y v u Q Y U P q) T
def FW(t:TE):TT:=fun σ H Q=>t σ H fun x H'=>∃k,x= .bl k/\Q k H'
theorem Em(Y:jz X (j_ op) r)(Z:PE X a ta)(W:PE X b tb)(U:mh op b=dV):PT X (.Compare a [op] [b] pos) (FW (Jo r ta tb)):=by
 intro pins s σ H Q I h;refine wpAny_isTrue_Compare1 (eJ (Z pins s σ H _ I h) fun v s1 ⟨x,H1,I1,r1,q1⟩=>eJ (W pins s1 σ H1 _ I1 q1) fun u s2 ⟨y,H2,I2,r2,q2⟩=>
  eJ (Y pins s2 σ H2 x y v u _ I2 r1 r2 q2) fun c s3 ⟨z,H3,I3,r3,k,e,q3⟩=>?_) U
 subst e;cases r3;exact NK ⟨H3,I3,q3⟩
def xu(r r':R2)(ta tb tc:TE):TE:=fun σ H Q=>ta σ H fun x H1=>tb σ H1 fun y H2=>r x y H2 fun z H3=>∃k,z= .bl k/\
 (if k=b_ then tc σ H3 fun w' H4=>r' y w' H4 Q else Q (.bl dV) H3)
theorem BM(W:jz X (j_ op) r)(Z:jz X (j_ op') r')(Y:PE X a ta)(U:PE X b tb)(T:PE X c tc)
  (S:Rv [op,op'] [b,c]=false:=by with_unfolding_all rfl):PE X (.Compare a [op,op'] [b,c] pos) (xu r r' ta tb tc):=by
 intro pins s σ H Q I h;refine Compare_chain (eJ (Y pins s σ H _ I h) fun v s1 ⟨x,H1,I1,r1,q1⟩=>chain_link (eJ (U pins s1 σ H1 _ I1 q1) fun u s2 ⟨y,H2,I2,r2,q2⟩=>
  eJ (W pins s2 σ H2 x y v u _ I2 r1 r2 q2) fun d s3 ⟨z,H3,I3,r3,k,e,q3⟩=>?_)) S
 subst e;cases r3;refine NK ?_;cases k with
 |false=>exact ite_ff ⟨.bl dV,H3,I3,rfl,q3⟩
 |true=>exact ite_tt (chain_last (eJ (T pins s3 σ H3 _ I3 q3) fun w' s4 ⟨z',H4,I4,r4,q4⟩=>Z pins s4 σ H4 y z' u w' Q I4 r2 r4 q4))
theorem BN(U:jz X (j_ op) r)(Z:jz X (j_ op') r')(W:PE X a ta)(T:PE X b tb)(S:PE X c tc)
  (P:Rv [op,op'] [b,c]=false:=by with_unfolding_all rfl):PT X (.Compare a [op,op'] [b,c] pos) (FW (xu r r' ta tb tc)):=by
 intro pins s σ H Q I h;refine isTrue_chain (eJ (W pins s σ H _ I h) fun v s1 ⟨x,H1,I1,r1,q1⟩=>test_link (eJ (T pins s1 σ H1 _ I1 q1) fun u s2 ⟨y,H2,I2,r2,q2⟩=>
  eJ (U pins s2 σ H2 x y v u _ I2 r1 r2 q2) fun d s3 ⟨z,H3,I3,r3,k,e,q3⟩=>?_)) P
 subst e;cases r3;refine NK ?_;cases k with
 |false=>
  obtain⟨O,Y,R⟩:=q3;cases Y;exact ite_ff ⟨H3,I3,R⟩
 |true=>
  refine ite_tt (test_last (eJ (S pins s3 σ H3 _ I3 q3) fun w' s4 ⟨z',H4,I4,r4,q4⟩=>eJ (Z pins s4 σ H4 y z' u w' _ I4 r2 r4 q4) fun d' s5 ⟨z2,H5,I5,r5,k2,e2,q5⟩=>?_));subst e2;cases r5;exact NK ⟨H5,I5,q5⟩
theorem pU:(sizeLine:Nat)<2 ^ 63:=by rw[Nq];decide
theorem vals1(r:bw [x] us):∃u,us=[u]/\RelV x u:=by
 cases r with
 |cons r1 r2=>cases r2;exact⟨_,rfl,r1⟩
theorem vals2(r:bw [x,y] us):∃u w',us=[u,w']/\RelV x u/\RelV y w':=by
 cases r with
 |cons r1 r2=>
  cases r2 with
  |cons r3 r4=>cases r4;exact⟨_,_,rfl,r1,r3⟩
theorem Am(Z:X.calm=b_):ef X (.builtin "max") (fun xs H Q=>∃i j,xs=[.int i,.int j]/\Q (.int (if j>i then j else i)) H):=by
 intro pins s σ H xs us Q I r h;obtain⟨i,j,rfl,q⟩:=h;obtain⟨u,W,rfl,⟨t,rfl⟩,⟨t',rfl⟩⟩:=vals2 r;refine max_two_ints (I.ok.hd Z) fun h' Y k=>⟨_,H,I.kept k,?_,q⟩;by_cases hj:j>i
 ·rw[if_pos hj,if_pos hj];exact⟨_,rfl⟩
 ·rw[if_neg hj,if_neg hj];exact⟨_,rfl⟩
theorem An(Z:X.calm=b_):ef X (.builtin "min") (fun xs H Q=>∃i j,xs=[.int i,.int j]/\Q (.int (if j<i then j else i)) H):=by
 intro pins s σ H xs us Q I r h;obtain⟨i,j,rfl,q⟩:=h;obtain⟨u,W,rfl,⟨t,rfl⟩,⟨t',rfl⟩⟩:=vals2 r;refine min_two_ints (I.ok.hd Z) fun h' Y k=>⟨_,H,I.kept k,?_,q⟩;by_cases hj:j<i
 ·rw[if_pos hj,if_pos hj];exact⟨_,rfl⟩
 ·rw[if_neg hj,if_neg hj];exact⟨_,rfl⟩
end
end L2
namespace L2
open PySem PySem.Spec PyProof.Rows
structure ObjM(h:gd)(x dx C:dt)(mA:Str->Option a_):Prop where
 obj:h.get? x=ar (R4 C dx)
 ns:h.Ns1 dx mA
 ne:dx≠x
theorem Ao{h:gd}{mA:Str->Option a_}(n:h.Ns1 dx mA):∃od,h.get? dx=ar od/\∀name,Ri name od=ar (mA name):=by
 obtain⟨o,es,ep,Y,hd,U,_,hm⟩:=n;refine⟨o,Y,fun name=>?_⟩;have e:=hm name;unfold nsFind findBy at e;rw[<-PQ]at e;unfold Ri;rw[hd];dsimp only;split
 ·rename_i y q
  rw[q]at e;exact OG ar e
 ·rename_i q
  rw[q]at e;have a:es.toList.any (·.refKey)=false:=by
   rw[List.any_eq_false];intro y X;obtain⟨z,t,Z⟩:=U y (Po.mp X);simp[DictEntry.refKey,Z]
  have T:¬ es.toList.any (·.refKey)=true:=by rw[a];exact NT
  rw[if_neg T];exact OG ar e
theorem ObjM.look{mA:Str->Option a_}(I:ObjM h x dx C mA):∃od,z4 h x (R4 C dx) C (ar od)/\∀name,Ri name od=ar (mA name):=
 let ⟨od,ho,hl⟩:=Ao I.ns
 ⟨od,⟨I.obj,rfl,rfl,ho⟩,hl⟩
section
variable {prog:eM}{w:fg}{A:hI}{E:a_->c_->Prop}{s:c_}{K:d_}{x dx C f:dt}{mA:Str->Option a_}{name:Str}{v:a_}
end
theorem tU.some_of(r:tU (ar v) o):∃u,o=ar u/\RelV v u:=by
 cases o with
 |none=>exact(show False from r).elim
 |some u=>exact⟨u,rfl,r⟩
theorem Ap(r:RelV v u):W.handedIn u=true:=by
 cases v with
 |non=>cases (show u=hO from r);rfl
 |bl b=>cases (show u=t6 b from r);rfl
 |int i=>obtain⟨t,e⟩:=(show ∃t,u=pd i t from r);cases e;rfl
 |str x=>obtain⟨t,e⟩:=(show ∃t,u=J' x t from r);cases e;rfl
 |byt b=>obtain⟨t,e⟩:=(show ∃t,u=Value.bytes b t from r);cases e;rfl
 |flt b=>obtain⟨t,e⟩:=(show ∃t,u=Qn b t from r);cases e;rfl
 |ref a=>cases (show u=ey a from r);rfl
 |ty n=>cases (show u=t7 n from r);rfl
section
variable {P:eM}{w:fg}{H H':Hp}{h h':gd}{a C dx:dt}{fs fs':List (Str×V)}
theorem fM(Z:gG P w H h)(e:H a=ar (.ins C dx fs)):∃mA,ObjM h a dx C mA/\(∀f,tU (fs.lookup f) (mA f))/\PySem.Within mA (fs.map (·.1))/\fs.length<=1000/\H dx=ar (.own a):=by
 obtain⟨d,z,ne,Y,mA,n,r,q⟩:=(show bB P w H h a (.ins C dx fs)from Z a _ e);exact⟨mA,⟨Y,n,ne⟩,r,q,z,d⟩
end
structure Cls(K:d_)(C:dt):Prop where
 pg:W.plainGet K C Str.empty=b_
 hd:W.hasDictIn K C=b_
 po:W.plainOver K C=b_
 sa:D' K (.ref C) "__setattr__"=ar (ar (.builtin "object.__setattr__"))
theorem Cls.get{K:d_}{C:dt}(c:Cls K C)(f:Str):W.plainGet K C f=true:=c.pg
structure Con(K:d_)(C:dt)(f:Str)(v:V)(u:a_):Prop where
 at_:D' K (.ref C) f=ar (ar u)
 rel:RelV v u
 get:W.specialIn K u "__get__"=ar none
 cp:W.copiedNames.contains f=dV
structure Meth(K:d_)(C:dt)(m:Str)(f:dt):Prop where
 at_:D' K (.ref C) m=ar (ar (.ref f))
 fn:W.isFn K (.ref f)=b_
 kp:z5 K (.ref f)=b_
section
variable {X:Cx}{pins:List (dt×Obj)}{σ:St}{H:Hp}{s:c_}{a C dx:dt}{fs:List (Str×V)}{f:Str}{v:V}{A:hI}{E:a_->c_->Prop}
theorem En(Y:o_ e f env (hS e env)=hS e env)
  (h:er (f_ prog w) A (hS e env) (fun o Z=>er (f_ prog w) A (SJ o f b_) Q E Z) E s):er (f_ prog w) A (hS (.Attribute e f pos) env) Q E s:=
 Attribute_any_ h (by rw[arm_eval_Attribute,Y])
end
section
variable {X:Cx}{o e value:Expr}{f:Str}{pos pos' tpos:Pos}{ta tv:TE}
end
section
variable {X:Cx}{pins:List (dt×Obj)}{σ:St}{H:Hp}{s:c_}{A:hI}{E:a_->c_->Prop}{Q:a_->c_->Prop}{c:a_}{b:Bool}
inductive TyOf(K:d_)(H:Hp):V->a_->Prop where
 |non:TyOf K H .non (.type "NoneType")
 |bl (x:Bool):TyOf K H (.bl x) (.type "bool")
 |int (i:Int):TyOf K H (.int i) (.type "int")
 |str (x:Str):TyOf K H (.str x) (.type "str")
 |flt (x:UInt64):TyOf K H (.flt x) (.type "float")
 |lst {a:dt} {xs:List V} (e:H a=ar (.lst xs)):TyOf K H (.ref a) (.type "list")
 |frz {a:dt} {o:Obj} {xs:List V} (e:H a=ar (.frz o (.lst xs))):TyOf K H (.ref a) (.type "list")
 |tup {a:dt} {xs:List V} (e:H a=ar (.tup xs)):TyOf K H (.ref a) (.type "tuple")
 |dK {a:dt} {kvs:List (Key×V)} (e:H a=ar (.dK kvs)):TyOf K H (.ref a) (.type "dict")
 |dT {a:dt} {kvs:List (List Key×V)} (e:H a=ar (.dT kvs)):TyOf K H (.ref a) (.type "dict")
 | ins {a C dx:dt} {fs:List (Str×V)} (e:H a=ar (.ins C dx fs)) (cl:Cls K C) (ha:D' K (.ref C) "__class__"=ar (ar (.builtin "object.__class__")))
   (hn:W.specialIn K (.builtin "object.__class__") "__get__"=ar (ar (.builtin "getset_descriptor.__get__"))) (htk:W.takesIn K (.builtin "object.__class__")=ar b_)
   (hm:W.mroIn K C (.type "object")=ar b_):TyOf K H (.ref a) (.ref C)
theorem Aq(I:Inv X pins σ H s)(Z:RelV x u)(T:TyOf X.K H x t)(e:r_ X.K t c=ar b)(h:∀tk,Q (.bool b) {s with toks:=tk}):
  er (f_ X.prog X.w) A (call (.builtin "isinstance") [u,c]) Q E s:=by
 cases T with
 |non=>cases (show u=hO from Z);exact Nt P8 I.kIn p7 e (fun z=>nomatch z) h
 |bl y=>cases (show u=t6 y from Z);exact Nt W.kitx_bool I.kIn p7 e (fun z=>nomatch z) h
 |int i=>obtain⟨t,q⟩:=(show ∃t,u=pd i t from Z);cases q;exact Nt W.kitx_int I.kIn p7 e (fun z=>nomatch z) h
 |str y=>obtain⟨t,q⟩:=(show ∃t,u=J' y t from Z);cases q;exact Nt W.kitx_str I.kIn p7 e (fun z=>nomatch z) h
 |flt y=>obtain⟨t,q⟩:=(show ∃t,u=Qn y t from Z);cases q;exact Nt W.kitx_float I.kIn p7 e (fun z=>nomatch z) h
 | @lst a xs ea=>
  cases (show u=ey a from Z);obtain⟨_,_,n,_,Y⟩:=(show bB X.prog X.w H s.heap a (.lst xs)from I.hok a _ ea);exact Nt O6 I.kIn ⟨_,Y,rfl⟩ e (fun z=>nomatch z) h
 | @frz a ob xs ea=>
  cases (show u=ey a from Z);obtain⟨_,_,_,n,_,Y⟩:=(show bB X.prog X.w H s.heap a (.frz ob (.lst xs))from I.hok a _ ea);exact Nt O6 I.kIn ⟨_,Y,rfl⟩ e (fun z=>nomatch z) h
 | @tup a xs ea=>
  cases (show u=ey a from Z);obtain⟨_,_,_,p⟩:=(show bB X.prog X.w H s.heap a (.tup xs)from I.hok a _ ea);obtain⟨o,Y,U,_⟩:=p;exact Nt W.kitx_tuple I.kIn ⟨o,Y,U⟩ e (fun z=>nomatch z) h
 | @dK a kvs ea=>
  cases (show u=ey a from Z);obtain⟨_,_,vs,_,p⟩:=(show bB X.prog X.w H s.heap a (.dK kvs)from I.hok a _ ea);obtain⟨o,es,ep,Y,U,_⟩:=p;exact Nt O7 I.kIn ⟨o,Y,U.1⟩ e (fun z=>nomatch z) h
 | @dT a kvs ea=>
  cases (show u=ey a from Z);obtain⟨_,_,xs,_,o,es,ep,Y,U,_⟩:=(show bB X.prog X.w H s.heap a (.dT kvs)from I.hok a _ ea);exact Nt O7 I.kIn ⟨o,Y,U.1⟩ e (fun z=>nomatch z) h
 | @ins a C dx fs ea cl ha hn htk hm=>
  cases (show u=ey a from Z);obtain⟨mA,O,_⟩:=fM I.hok ea;obtain⟨od,J,_⟩:=O.look;exact Nt (W.kitx_own (cl.get _) cl.hd ha hn htk hm) I.kIn J e (fun z=>nomatch z) h
end
end L2
namespace L2
open PySem PySem.Spec PyProof.Rows
structure Room(k:Nat)(A:hI):Prop where
 hd:A.handled=none
 dp:A.depth+3*k+5<recursionLimit
 un:A.units+16*k+200<u_
theorem Room.mono(r:Room k A)(h:j<=k):Room j A:=⟨r.hd,by have:=r.dp;omega,by have:=r.un;omega⟩
theorem Room.deeper(r:Room (k+1) A)(env:Env):Room k (A.deeper env):=
 ⟨r.hd,by have:=r.dp;show A.depth+1+3*k+5<_;omega,by have:=r.un;show A.units+3+16*k+200<_;omega⟩
theorem xv{A:hI}:(A.under (.builtin "type.__call__" ⟨.ref C::us,kw⟩)).depth=A.depth+1:=by
 first|rfl|simp[Rj,Code.weight,Code.isCreation,Code.isGuard,Code.isCaller,Code.frames,Rk,guardIds]
theorem xw{A:hI}:(A.under (.builtin "type.__call__" ⟨.ref C::us,kw⟩)).units=A.units+1:=by
 first|rfl|simp[Rj,Code.cUnits,Code.frames,Rk]
theorem Room.make(r:Room (k+1) A)(C:dt)(us:List a_)(Z:List (Str×a_)):Room k (A.under (.builtin "type.__call__" ⟨.ref C::us,Z⟩)):=
 ⟨r.hd,by have:=r.dp;rw[xv];omega,by have:=r.un;rw[xw];omega⟩
theorem Room.depth(r:Room k A):A.depth<recursionLimit:=by have:=r.dp;omega
def Lh:TA:=fun _ H Q=>Q [] H
def Jt(ta:TE)(tr:TA):TA:=fun σ H Q=>ta σ H fun x H1=>tr σ H1 fun xs H2=>Q (x::xs) H2
section
variable {X:Cx}{e:Expr}{es:List Expr}{te:TE}{t:TA}{pos:Pos}
theorem ku:PA X [] Lh:=fun _ _ _ _ H Q I h=>Calls.spliced_nil ⟨[],H,I,.nil,h⟩
theorem fN(Z:PE X e te)(Y:PA X es t)(hs:ee (e::es) X.env=(dV,hS e X.env)::ee es X.env:=by rfl):PA X (e::es) (Jt te t):=by
 intro pos pins s σ H Q I h;rw[hs];show er _ _ (spliced ((dV,hS e X.env)::pa pos (ee es X.env))) _ _ s;refine Calls.spliced_cons (eJ (Z pins s σ H _ I h) fun u s1 ⟨x,H1,I1,r1,q1⟩=>?_);exact eJ (Y pos pins s1 σ H1 _ I1 q1) fun us s2 ⟨xs,H2,I2,r2,q2⟩=>⟨x::xs,H2,I2,.cons r1 r2,q2⟩
def Li(t:TA):TE:=fun σ H Q=>t σ H fun xs H1=>xs.length<=sizeLine/\∀p,H1 p=none->Q (.ref p) (upd H1 p (.tup xs))
def Lj(t:TA):TE:=fun σ H Q=>t σ H fun xs H1=>xs.length<=sizeLine/\∀p,H1 p=none->Q (.ref p) (upd H1 p (.lst xs))
theorem BO{x1}(h:PA X es t):PE X (.Tuple es x1 pos) (Li t):=by
 intro pins s σ H Q I Z;refine wpAny_Tuple_spliced (eJ (h pos pins s σ H _ I Z) fun us s1 ⟨xs,H1,I1,r,z,q⟩=>⟨by rw[<-r.length];exact z,?_⟩)
 have hf:H1 s1.heap.objs.size=none:=I1.hok.fresh (Ms _);refine⟨.ref s1.heap.objs.size,upd H1 s1.heap.objs.size (.tup xs),I1.laid (t':=s1.toks) (fun b u e=>Mp _ e) (Ms _) ?_,rfl,q _ hf⟩;exact⟨z,us,r,⟨_,Mz _ rfl,rfl,_,rfl⟩⟩
theorem G6(h:PA X es t):PE X (.List es pos) (Lj t):=by
 intro pins s σ H Q I Z;refine wpAny_List_spliced (eJ (h pos pins s σ H _ I Z) fun us s1 ⟨xs,H1,I1,r,z,q⟩=>⟨by rw[<-r.length];exact z,?_⟩)
 have hf:H1 s1.heap.objs.size=none:=I1.hok.fresh (Ms _);refine⟨.ref s1.heap.objs.size,upd H1 s1.heap.objs.size (.lst xs),I1.laid (t':=s1.toks) (fun b u e=>Mp _ e) (Ms _) ?_,rfl,q _ hf⟩;exact⟨z,us,0,r,Mz _ rfl⟩
end
abbrev Sp:=List V->Hp->VK->XK->Prop
abbrev Bv:=List Env->Hp->c_->XK->a_->c_->Prop
structure aP(P:eM)(w:fg)(K:d_)(mg:Str->Option a_)(base:gd)(A:hI)(outer:List Env)(s:c_)(H:Hp):Prop where
 frames:A.frames=ar outer
 mod:Mod K mg base
 bs:∀b o,base.get? b=ar o->s.heap.get? b=ar o/\H b=none
 bsz:base.objs.size<=s.heap.objs.size
 funs:s.heap.FunFrames base outer
 frf:∀b∈ko outer,H b=none
 hok:gG P w H s.heap
 bare:y2 s.gens
def CE(outer:List Env)(P:eM)(w:fg)(H:Hp)(s:c_)(Q:VK)(u:a_)(s':c_):Prop:=
 ∃v H',s'.os=s.os/\y2 s'.gens/\Un (ko outer) [] H H' s.heap s'.heap/\gG P w H' s'.heap/\RelV v u/\Q v H'
def CR(CX:Bv)(outer:List Env)(P:eM)(w:fg)(H:Hp)(s:c_)(Q:VK)(E:XK)(r:Sx)(s':c_):Prop:=
 match r with
 | .ok (.ret u)=>CE outer P w H s Q u s'
 | .ok _=>False
 | .error e=>CX outer H s E e s'
structure FnOk(P:eM)(w:fg)(K:d_)(mg:Str->Option a_)(base:gd)(CX:Bv)(k:Nat)(f:dt)(fd:gc)(ps:List Str)(sp:Sp):Prop where
 len:∀vs H Q E,sp vs H Q E->vs.length=ps.length
 run:∀(A:hI) (outer:List Env) (s:c_) (H:Hp) (args:Args) (us:List a_) (vs:List V) (Q:VK) (E:XK),Room k A->aP P w K mg base A outer s H->F_ s fd args (ps.zip us)->bw vs us->sp vs H Q E->
  B_ (f_ P w) A (.call (.ref f) args) (CR CX outer P w H s Q E) s
theorem aP.make{P:eM}{w:fg}{K:d_}{Z:Str->Option a_}{base:gd}{A:hI}{outer:List Env}{s:c_}{H:Hp}(e:aP P w K Z base A outer s H)(C:dt)(us:List a_)(Y:List (Str×a_)):
  aP P w K Z base (A.under (.builtin "type.__call__" ⟨.ref C::us,Y⟩)) outer s H:=⟨by first|exact e.frames|(simpa [Rj,Code.envs,Rk,pushEnvs]using e.frames),e.mod,e.bs,e.bsz,e.funs,e.frf,e.hok,e.bare⟩
section
variable {X:Cx}{pins:List (dt×Obj)}{σ:St}{H:Hp}{s s':c_}
theorem Inv.env0(I:Inv X pins σ H s):aP X.prog X.w X.K X.mg X.base X.A X.stack s H:=
 ⟨I.ok.frames,I.ok.mod,I.bs,ME I.ok.bsz I.sz,I.stack,I.stkFree,I.hok,I.bare⟩
theorem Inv.after(I:Inv X pins σ H s)(h:CE X.stack X.prog X.w H s Q u s'):EP X pins σ Q u s':=by
 obtain⟨v,U,os,bare,un,Y,r,q⟩:=h;obtain⟨W,g,d,t,Z⟩:=s';obtain rfl:Z=s.os:=os;exact⟨v,U,I.call (h':=W) (g':=g) (d':=d) (t':=t) (ch:=[]) un Y bare (fun b z=>absurd z (by simp)),r,q⟩
end
def Ju(sp:Sp)(dvs:List V)(E:XK)(t:TA):TE:=fun σ H Q=>t σ H fun vs H1=>sp (vs++dvs) H1 Q E
def Binds(K:d_)(fd:gc)(ps:List Str)(ds:List a_):Prop:=
 ∀(s:c_) (us:List a_),K.In s.heap->(us++ds).length=ps.length->F_ s fd ⟨us,[]⟩ (ps.zip (us++ds))
theorem Binds.all{K:d_}{X:gc}{Z:List Str}(h:∀us:List a_,us.length=Z.length->RP X ⟨us,[]⟩=aC (Z.zip us)):Binds K X Z []:=fun s us _ Y=>by
 rw[M3]at Y⊢;exact .of_eq (h us Y)
def pV(CX:Bv)(X:Cx)(E:XK):Prop:=∀(pins:List (dt×Obj)) (σ:St) (H:Hp) (s:c_) (e:a_) (s':c_),Inv X pins σ H s->CX X.stack H s E e s'->X.xe e s'
section
variable {X:Cx}{CX:Bv}{k:Nat}{f C:dt}{fd:gc}{ps:List Str}{sp:Sp}{dvs:List V}{ds:List a_}{E:XK}{x m:Str}{p pos apos:Pos}{e o:Expr}{es:List Expr}{ta:TE}{t:TA}
theorem G7(F:FnOk X.prog X.w X.K X.mg X.base CX k f fd ps sp)(R:Room k X.A)(T:Binds X.K fd ps ds)(S:bw dvs ds)(U:pV CX X E)
  (I:Inv X pins σ H s) (r:bw vs us) (h:sp (vs++dvs) H Q E):er (f_ X.prog X.w) X.A (call (.ref f) us) (EP X pins σ Q) X.xe s:=by
 have Y:bw (vs++dvs) (us++ds):=r.append S;have W:(us++ds).length=ps.length:=by rw[<-Y.length];exact F.len _ _ _ _ h
 refine O8 (Od (F.run X.A X.stack s H ⟨us,[]⟩ (us++ds) (vs++dvs) Q E R I.env0 (T s us I.kIn W) Y h) fun r s' Z=>?_);cases r with
 |error e=>exact U pins σ H s e s' I Z
 |ok fl=>
  cases fl with
  |ret u=>exact I.after Z
  |next=>exact hJ Z
  |brk=>exact hJ Z
  |cont=>exact hJ Z
theorem yE(F:FnOk X.prog X.w X.K X.mg X.base CX k f fd ps sp)(J:Room k X.A)(L:Gl X x)(R:X.mg x=ar (.ref f))(O:z5 X.K (.ref f)=b_)(N:Binds X.K fd ps ds)(S:bw dvs ds)(U:pV CX X E)
  (T:PA X (e::es) t) (Y:(x==("__debug__":Str))=false:=by decide) (P:ee (e::es) X.env=(dV,hS e X.env)::ee es X.env:=by rfl) (Z:(pa pos (ee es X.env)).any (·.1)=false:=by rfl):
  PE X (.Call (.Name x p) (e::es) [] pos) (Ju sp dvs E t):=by
 intro pins s σ H Q I h;refine Ot (kX I L R ?_ Y);refine W.callWith_K (h₀:=X.base) I.ok.mod.kin O (eJ (T pos pins s σ H _ I h) fun us s1 ⟨vs,H1,I1,r,q⟩=>⟨I1.kIn,?_⟩) P Z;exact G7 F J N S U I1 r q
structure Mk(K:d_)(C f:dt):Prop where
 makes:W.makesIn K C=b_
 init:D' K (.ref C) "__init__"=ar (ar (.ref f))
 fn:W.isFn K (.ref f)=b_
 kp:z5 K (.ref C)=b_
end
section
variable {X:Cx}{CX:Bv}{k:Nat}{f C:dt}{fd:gc}{ps ks:List Str}{sp:Sp}{E:XK}{x m:Str}{p pos apos kpos:Pos}{e o:Expr}{es:List Expr}{kws:List RJ}{te ta:TE}{t tk:TA}{nm:Option Str}
structure KBinds(K:d_)(fd:gc)(ps ks:List Str)(g:List a_->List a_->List a_)(gV:List V->List V->List V):Prop where
 to:∀(s:c_) (us ws:List a_),K.In s.heap->(g us ws).length=ps.length->F_ s fd ⟨us,ks.zip ws⟩ (ps.zip (g us ws))
 rel:∀{vs:List V} {us:List a_} {zs:List V} {ws:List a_},bw vs us->bw zs ws->bw (gV vs zs) (g us ws)
variable {g:List a_->List a_->List a_}{gV:List V->List V->List V}
end
structure FnScope(N P:List Str)(sc:Scope):Prop where
 kind:sc.kind= .function
 co:sc.isCoroutine=dV
 gen:sc.isGenerator=dV
 nd:N.Nodup
 pre:N.take P.length=P
 par:∀x∈P,sc.names.lookup x=ar .local\/sc.names.lookup x=ar .cell
 nofree:∀y∈sc.names,y.2≠ .free
theorem sF{Z:Str->Option m_}{x:Str}:∀{binds:List (Str×a_)} {m:Str->Option a_},(∀v,(x,v)∉binds)->RQ Z binds m x=m x
 |[],_,_=>rfl
 | (n,v)::r,m,h=>by
  unfold RQ;rw[sF fun w hw=>h w (My _ hw)];split
  ·have:x≠n:=by rintro rfl;exact h v MH
   simp[this]
  ·rfl
theorem sG{Z:Str->Option m_}{x:Str}:∀{binds:List (Str×a_)} {m:Str->Option a_},(∀v,(x,v)∉binds)->RR Z binds m x=m x
 |[],_,_=>rfl
 | (n,v)::r,m,h=>by
  unfold RR;rw[sG fun w hw=>h w (My _ hw)];split
  ·rfl
  ·have:x≠n:=by rintro rfl;exact h v MH
   simp[this]
theorem sH{Z:Str->Option m_}:∀{P:List Str} {vs:List a_} {i:Nat} {m:Str->Option a_},P.Nodup->P[i]? =ar x->vs[i]? =ar v->Z x=ar .local->
  RQ Z (P.zip vs) m x=ar v
 |[],_,_,_,_,h,_,_=>by simp at h
 |_::_,[],_,_,_,_,h,_=>by simp at h
 |p::P,w::vs,0,m,nd,h1,h2,hk=>by
  simp at h1 h2;subst h1;subst h2;show RQ Z ((p,w)::P.zip vs) m p=_;unfold RQ;rw[sF fun v Y=>(Nj.mp nd).1 (OX Y).1,if_pos hk];simp
 |p::P,w::vs,i+1,m,nd,h1,h2,hk=>by
  show RQ Z ((p,w)::P.zip vs) m x=_;unfold RQ;exact sH (i:=i) (Nj.mp nd).2 (by simpa using h1) (by simpa using h2) hk
theorem sI{Z:Str->Option m_}:∀{P:List Str} {vs:List a_} {i:Nat} {m:Str->Option a_},P.Nodup->P[i]? =ar x->vs[i]? =ar v->Z x≠ar .local->
  RR Z (P.zip vs) m x=ar v
 |[],_,_,_,_,h,_,_=>by simp at h
 |_::_,[],_,_,_,_,h,_=>by simp at h
 |p::P,w::vs,0,m,nd,h1,h2,hk=>by
  simp at h1 h2;subst h1;subst h2;show RR Z ((p,w)::P.zip vs) m p=_;unfold RR;rw[sG fun v Y=>(Nj.mp nd).1 (OX Y).1,if_neg hk];simp
 |p::P,w::vs,i+1,m,nd,h1,h2,hk=>by
  show RR Z ((p,w)::P.zip vs) m x=_;unfold RR;exact sI (i:=i) (Nj.mp nd).2 (by simpa using h1) (by simpa using h2) hk
def start(N:List Str)(vs:List V):St:=vs.map ar++lu (N.length - vs.length) none
def kh(CX:Bv)(P:eM)(w:fg)(K:d_)(mg:Str->Option a_)(base:gd)(N:List Str)(qual:Str)(scope:Scope)(f:dt)(cd:a_)(A:hI)(outer:List Env)(s:c_)(H:Hp)(E:XK):Cx where
 prog:=P
 w:=w
 K:=K
 mg:=mg
 base:=base
 A:=A.deeper (z8 qual scope s.heap.objs.size f cd)
 N:=N
 s₀:=s
 H₀:=H
 env:=z8 qual scope s.heap.objs.size f cd
 outer:=outer
 stack:=z8 qual scope s.heap.objs.size f cd::outer
 ex:=[]
 calm:=b_
 fn:=fun _=>b_
 pn:=[]
 xe:=fun e s'=>er (f_ P w) (A.deeper (z8 qual scope s.heap.objs.size f cd)) (Q0 (z8 qual scope s.heap.objs.size f cd) e) (fun _ s''=>CX outer H s E e s'') (fun e' s''=>CX outer H s E e' s'') s'
theorem vH{Z:Scope}(h:Z.names.lookup x=ar .cell):∃c,(kS n Z.names []).lookup x=ar c:=by
 have q:=O3 Z.names n [] (.inl h);exact Nk.mp q
theorem Ar{G:Bv}{P:eM}{w:fg}{K:d_}{J:Str->Option a_}{base:gd}{N U:List Str}{qual:Str}{scope:Scope}{f:dt}{O:a_}{A:hI}{outer:List Env}{s C:c_}{H:Hp}{E:XK}{us:List a_}{vs:List V}
  (S:FnScope N U scope) (t:A.handled=none) (Y:aP P w K J base A outer s H) (j:vs.length=U.length) (r:bw vs us)
  (x:InCallC s s.heap.objs.size (RQ (z8 qual scope s.heap.objs.size f O).kindOf (U.zip us) fun _=>none) (kS (s.heap.objs.size+1) scope.names []) (RR (z8 qual scope s.heap.objs.size f O).kindOf (U.zip us) fun _=>none) C):
  Inv (kh G P w K J base N qual scope f O A outer s H E) [] (start N vs) H C:=by
 have o:U.length<=N.length:=by have:=OG GB S.pre;rw[NI]at this;omega
 obtain⟨L,l,rfl,F⟩:=x.done;have X:∀b:dt,b∉(kh G P w K J base N qual scope f O A outer s H E).ex:=fun b z=>absurd (show b∈([]:List dt)from z) (by simp)
 refine⟨⟨Y.mod,S.kind,rfl,rfl,Ms _,fun y z c L Z=>?_,fun y T=>?_,fun y c _ h=>?_,fun _=>t,Around.frames_deeper Y.frames,.inr ⟨rfl,rfl⟩,fun b z=>absurd z (X b),Y.bs,Y.bsz,fun b _ _=>X b,fun b z=>absurd z (X b),Y.funs,Y.frf⟩,
  rfl,Y.bare,Un.kept F,⟨_,x.toInCall.ns,fun i y v L Z g=>?_⟩,fun y c h=>⟨_,x.cell y c h⟩,Y.hok.fresh (Ms _),fun y c h=>?_,fun p Q=>absurd (show p∈([]:List (dt×Obj))from Q) (by simp),Y.hok.kept F,?_⟩
 ·exact name_of_addr x.apart (Oe L) (Oe Z)
 ·have T:scope.names.lookup y=ar .cell\/scope.names.lookup y=ar .free:=T;rcases T with T|T
  ·exact vH T
  ·exact absurd rfl (S.nofree _ (Oe T))
 ·exact N5 (x.above y c (Oe h))
 ·have hi:i<vs.length:=by
   unfold start at Z;by_cases hi:i<vs.length
   ·exact hi
   ·rw[N0 (by simpa using hi)]at Z
    rw[List.getElem?_replicate]at Z;split at Z<;>cases Z
  have B:vs[i]? =ar v:=by
   unfold start at Z;rw[MN (by simpa using hi),MO]at Z
   cases e:vs[i]? with
   |none=>rw[e]at Z;cases Z
   |some a=>rw[e]at Z;cases Z;rfl
  obtain⟨u,I,m⟩:=r.get B;have Q:U[i]? =ar y:=by
   rw[<-S.pre,P9 (by omega)];exact L
  have R:U.Nodup:=by rw[<-S.pre];exact S.nd.sublist (Qa _ _)
  refine⟨u,m,?_⟩;rcases S.par y (M1 Q)with k|k
  ·exact .inl ⟨k,sH R Q I k⟩
  ·obtain⟨c,e⟩:=vH (n:=s.heap.objs.size+1) k;refine .inr ⟨.inl k,c,e,?_⟩;have q:=x.cell y c e;rw[sI R Q I (by show scope.names.lookup y≠_;rw[k];decide)]at q
   exact q
 ·exact Y.hok.fresh (N5 (x.above y c (Oe h)))
 ·unfold start;show _=N.length;rw[Mu,Mq,List.length_replicate];omega
theorem BP{F:Bv}{P:eM}{w:fg}{K:d_}{B:Str->Option a_}{base:gd}{k:Nat}{f:dt}{name qual:Str}{params:Q2}{body:List ri}{scope:Scope}{h kV O i Z ct oc:a_}{g od:Option dt}
  {p:Array (Option a_)} {N C:List Str} {sp:Sp} (lk:K.lookup f=ar ⟨oc,od,.func (D_ name qual params body scope h kV O i g Z ct),p⟩) (z:Rl K Z qual=b_) (S:FnScope N C scope)
  (G:∀vs H Q E,sp vs H Q E->vs.length=C.length)
  (T:∀(A:hI) (outer:List Env) (s:c_) (H:Hp) (vs:List V) (Q:VK) (E:XK),Room k (A.deeper (z8 qual scope s.heap.objs.size f Z))->sp vs H Q E->
   ∃t,rS (kh F P w K B base N qual scope f Z A outer s H E) body t/\t {nx:=fun _ X=>Q .non X,rt:=Q} (start N vs) H):
  FnOk P w K B base F (k+1) f (D_ name qual params body scope h kV O i g Z ct) C sp:=by
 refine⟨G,fun A outer s H args us vs Q E m L a r R=>?_⟩;have hl:=G _ _ _ _ R;have j:K.In s.heap:=L.mod.kin.keeps fun b o e=>(L.bs b o e).1;have lim:s.heap.NoLimit:=L.mod.nolimit.keeps fun b o e=>(L.bs b o e).1;have U:∀y∈C.zip us,scope.names.lookup y.1=ar .local\/(scope.names.lookup y.1=ar .cell/\((kS (s.heap.objs.size+1) scope.names []).lookup y.1).isSome=b_):=fun⟨n,v⟩ hy=>by
  rcases S.par n (OX hy).1 with q|q
  ·exact .inl q
  ·exact .inr ⟨q,O3 _ _ _ (.inl q)⟩
 refine codeAny_call_function m.depth (j _ _ lk) rfl S.co S.gen rfl (W.codeRec_of j z) (a _ _ _ _ ?_);refine wpAny_newFunctionEnv_cells S.kind U fun env he s1 x=>?_;subst he;refine⟨lim.keeps x.toInCall.keep,codeAny_func ?_⟩;obtain⟨t,c,hq⟩:=T A outer s H vs Q E (m.deeper _) R;have I:Inv (kh F P w K B base N qual scope f Z A outer s H E) [] (start N vs) H s1:=Ar S m.hd L hl r x;refine Nf (c [] s1 (start N vs) H _ I hq) (fun d s' hs=>?_) fun e s' hs=>hs;have fin:∀{Y:St} {X:Hp} {v:V} {u:a_},Inv (kh F P w K B base N qual scope f Z A outer s H E) [] Y X s'->RelV v u->Q v X->CE outer P w H s Q u s':=
  fun{Y X v u} J l q=>⟨v,X,J.os,J.bare,J.base,J.hok,l,q⟩
 cases d with
 |ret u=>
  obtain⟨v,Y,X,J,l,q⟩:=hs;exact fin J l q
 |next=>
  obtain⟨Y,X,J,q⟩:=hs;exact fin (v:=V.non) (u:=hO) J rfl q
 |brk=>
  obtain⟨_,_,_,q⟩:=hs;exact hJ q
 |cont=>
  obtain⟨_,_,_,q⟩:=hs;exact hJ q
end L2
namespace L2
open PySem PySem.Spec PyProof.Rows
section
variable {X:Cx}{x:Str}{p pos:Pos}{e:Expr}{es:List Expr}{t:TA}{id T:String}{r:List V->Hp->VK->Prop}
def Lk(r:List V->Hp->VK->Prop)(t:TA):TE:=fun σ H Q=>t σ H fun vs H1=>r vs H1 Q
theorem ky(S:ef X (.builtin id) r)(P:Gl X x)(O:X.mg x=none)(R:k8 x=ar (.builtin id))(U:PA X (e::es) t)(N:x≠"__name__":=by decide)(Z:(x==("__debug__":Str))=false:=by decide)
  (W:ee (e::es) X.env=(dV,hS e X.env)::ee es X.env:=by rfl) (Y:(pa pos (ee es X.env)).any (·.1)=false:=by rfl):PE X (.Call (.Name x p) (e::es) [] pos) (Lk r t):=by
 intro pins s σ H Q I h;refine Ot (lY I P O R ?_ N Z);exact PyProof.Rows.callWith_builtin1 (eJ (U pos pins s σ H _ I h) fun us s1 ⟨vs,H1,I1,r1,q1⟩=>S pins s1 σ H1 vs us Q I1 r1 q1) W Y
theorem kZ(S:ef X (.type T) r)(P:Gl X x)(O:X.mg x=none)(R:k8 x=ar (.type T))(U:PA X (e::es) t)(N:x≠"__name__":=by decide)(Z:(x==("__debug__":Str))=false:=by decide)
  (W:ee (e::es) X.env=(dV,hS e X.env)::ee es X.env:=by rfl) (Y:(pa pos (ee es X.env)).any (·.1)=false:=by rfl):PE X (.Call (.Name x p) (e::es) [] pos) (Lk r t):=by
 intro pins s σ H Q I h;refine Ot (lY I P O R ?_ N Z);exact ND (eJ (U pos pins s σ H _ I h) fun us s1 ⟨vs,H1,I1,r1,q1⟩=>S pins s1 σ H1 vs us Q I1 r1 q1) W Y
end
end L2
namespace HT
open PySem PyProof.Rows
def lexLt:List Int->List Int->Bool
 |[],[]=>dV
 |[],_::_=>b_
 |_::_,[]=>dV
 |x::xs,y::ys=>if x=y then lexLt xs ys else decide (x<y)
theorem lexLt_cons(x y:Int)(xs ys:List Int):lexLt (x::xs) (y::ys)=if x=y then lexLt xs ys else decide (x<y):=rfl
theorem rT:lexLt [] []=false:=rfl
theorem pW(y:Int)(ys:List Int):lexLt [] (y::ys)=true:=rfl
theorem pX(x:Int)(xs:List Int):lexLt (x::xs) []=false:=rfl
theorem BQ(A:hI)(s:c_)(a:Int)(t:Tok)(c:Int)(u:Tok):∃e,SeqAt.EqAt A s (.int a t) (.int c u) e/\(e=b_↔a=c):=
 ⟨(a==c),SeqAt.EqAt.int_int a t c u,by simp⟩
theorem BR(A:hI)(s:c_)(a:Int)(t:Tok)(c:Int)(u:Tok)(prog:eM)(w:fg)(E:a_->c_->Prop)(Q:a_->c_->Prop)(h:Q (.bool (decide (a<c))) s):
  er (f_ prog w) A (richCompare .Lt (.int a t) (.int c u)) Q E s:=
 (PyProof.Rows.lt_int h:er (f_ prog w) A (j_ .Lt (.int a t) (.int c u)) Q E s)
section
open PySem.SeqAt
open PySem.AutoSeq1 (wpAny_loadPart')
open PySem.MeetsSeq PySem.MeetsSeq2 PySem.MeetsSeq3
theorem rV(l b:dt)(items Z:Array a_)(n N:Nat)(dd Q:Option dt)(J T:Array (Option a_))(ns U:List Int)(hi:n7 items.toList ns)(O:n7 Z.toList U):
  Meets (Builtin.«tuple.__lt__» ⟨[.ref l,.ref b],[]⟩)
   (fun _ R s=>s.heap.get? l=ar {cls:=.type "tuple",dict:=dd,data:=.seq items n,slots:=J}/\s.heap.get? b=ar {cls:=.type "tuple",dict:=Q,data:=.seq Z N,slots:=T}/\
    R (.ok (.ret (.bool (lexLt ns U)))) s):=
 .of_wp fun prog w A R s h=>by
  obtain⟨W,g,d,X,os⟩:=s;obtain⟨K,L,h⟩:=h;have f2:=AutoSeq1.sub_tuple_tuple;have I:items.size=ns.length:=by rw[<-hi.length];simp
  have H:Z.size=U.length:=by rw[<-O.length];simp
  wp_walk using wpAny_loadPart' K,wpAny_loadPart' L,Pk _ (fun rest b s'=>b.1=none/\s'=⟨W,g,d,X,os⟩/\∃(vs ws:List a_) (ns' ms':List Int),rest=vs.zip ws/\
   n7 vs ns'/\n7 ws ms'/\ns'.length+Z.size=ms'.length+items.size/\R (.ok (.ret (.bool (lexLt ns' ms')))) ⟨W,g,d,X,os⟩) _
  case turn=>
   rintro⟨y,x⟩ rest b s' ⟨hb',rfl,vs,ws,ns',ms',hz,hvi,hwi,hlen,hR⟩;cases hvi with
   |nil=>rw[List.zip_nil_left]at hz;cases hz
   | cons a t hvi'=>
    cases hwi with
    |nil=>rw[List.zip_nil_right]at hz;cases hz
    | cons c u hwi'=>
     rw[PR]at hz;injection hz with hyx hrest;injection hyx with hy hx;subst hy hx;rw[lexLt_cons]at hR;simp only[rn]at hlen;obtain⟨e,he,Y⟩:=BQ A.in1 ⟨W,g,d,X,os⟩ a t c u;refine Mo (he prog w _ _ ?_);cases e with
     |true=>
      rw[if_pos (Y.mp rfl)]at hR
      wp_walk
      exact⟨rfl,rfl,_,_,_,_,hrest,hvi',hwi',by omega,hR⟩
     |false=>
      rw[if_neg (fun q=>absurd (Y.mpr q) NT)]at hR;have S:=BR A.in1 ⟨W,g,d,X,os⟩ a t c u prog w
      wp_walk using S
      exact⟨_,rfl,by simpa using hR⟩
  case fin=>
   rintro⟨b1,b2⟩ s' ⟨hb',rfl,vs,ws,ns',ms',hz,hvi,hwi,hlen,hR⟩;simp only at hb';subst hb';have P:lexLt ns' ms'=decide (items.size<Z.size):=by
    cases hvi with
    | nil=>
     cases hwi with
     |nil=>
      simp only[z_]at hlen;rw[rT];exact(MP (by omega)).symm
     |cons c u hw=>
      simp only[z_,rn]at hlen;rw[pW];exact(MF (by omega)).symm
    | cons a t P=>
     cases hwi with
     |nil=>
      simp only[z_,rn]at hlen;rw[pX];exact(MP (by omega)).symm
     |cons c u hw=>
      rw[PR]at hz;cases hz
   rw[P]at hR
   wp_walk
   exact⟨_,rfl,by simpa [Builtin.Tuple.tupleCompareSizes]using hR⟩
  case h=>
   exact⟨rfl,rfl,items.toList,Z.toList,ns,U,rfl,hi,O,by omega,h⟩
end
section
variable {prog:eM}{w:fg}{A:hI}{E:a_->c_->Prop}{s:c_}
theorem lt_tupInts{Q:a_->c_->Prop}(R:R3 s.heap l items)(N:R3 s.heap b items2)(hi:n7 items.toList ns)(K:n7 items2.toList ms)
  (P:A.units<u_) (h:Q (.bool (lexLt ns ms)) s):er (f_ prog w) A (j_ .Lt (.ref l) (.ref b)) Q E s:=by
 obtain⟨⟨cls,dd,data,O⟩,U,S,n,hd⟩:=id R;obtain⟨⟨T,W,data2,X⟩,Z,Y,L,hd2⟩:=id N;simp only at S hd Y hd2;subst S hd Y hd2;exact richCompare_meets_room (op:=.Lt) ⟨_,U,rfl⟩ ⟨_,Z,rfl⟩ PySem.F.slot_tuple_lt PySem.F.entry_tuple_lt (PySem.F.args_tuple_lt_2 _ _) (rV l b items items2 n L dd W O X ns ms hi K)
  ⟨U,Z,show t6 (lexLt ns ms)≠Value.notImplemented/\Q (.bool (lexLt ns ms)) s from⟨(fun x=>nomatch x),h⟩⟩ P
theorem cat_tup{vs Z:List a_}{Q:a_->c_->Prop}(I:R3 s.heap t vs.toArray)(H:R3 s.heap b Z.toArray)(L:vs≠[])
  (K:Z=[]->Q (.ref t) s) (J:Z≠[]->Q (.ref s.heap.objs.size) {s with heap:=s.heap.push {cls:=.type "tuple",data:=.seq (vs++Z).toArray}})
  (S:vs.length+Z.length<=sizeLine):er (f_ prog w) A (t8 .Add (.ref t) (.ref b)) Q E s:=by
 obtain⟨⟨cls,dd,data,R⟩,T,N,n,hd⟩:=id I;obtain⟨⟨P,U,data2,W⟩,Y,X,O,hd2⟩:=id H;simp only at N hd X hd2;subst N hd X hd2;have e:vs.toArray++Z.toArray=(vs++Z).toArray:=by simp
 by_cases hw:Z=[]
 ·exact Rm ⟨_,T,rfl⟩ ⟨_,Y,rfl⟩ Qx Q8 O4 OY (OU _ _)
   (tuple_addW1 t b vs.toArray Z.toArray n O dd U R W (by simpa using L) (by simp[hw])) ⟨T,Y,K hw⟩
 ·refine Rm ⟨_,T,rfl⟩ ⟨_,Y,rfl⟩ Qx Q8 O4 OY (OU _ _)
   (tuple_addW2 t b vs.toArray Z.toArray n O dd U R W (by simpa using L) (by simpa using hw) (by rw[MB,MB];exact S)) ⟨T,Y,?_⟩
  rw[e];exact J hw
def sIx(n d:Nat):Option Int->Nat
 |none=>d
 |some v=>if v<0 then (v+(n:Int)).toNat else min v.toNat n
theorem sIx_none(n d:Nat):sIx n d none=d:=rfl
theorem sIx_nat(n d k:Nat):sIx n d (ar (k:Int))=min k n:=by
 show(if (k:Int)<0 then ((k:Int)+(n:Int)).toNat else min (k:Int).toNat n)=min k n;rw[if_neg (by omega),M8]
theorem G8(n d:Nat)(Z:d<=n)(o:Option Int):sIx n d o<=n:=by
 cases o with
 |none=>exact Z
 |some v=>
  show(if v<0 then (v+(n:Int)).toNat else min v.toNat n)<=n;by_cases hv:v<0
  ·rw[if_pos hv];omega
  ·rw[if_neg hv];exact Nat.min_le_right _ _
theorem yF(v:Int)(n d:Nat):(if v<0 then max (v+(n:Int)) 0 else min v (n:Int))=((sIx n d (ar v):Nat):Int):=by
 show(if v<0 then max (v+(n:Int)) 0 else min v (n:Int))=(((if v<0 then (v+(n:Int)).toNat else min v.toNat n):Nat):Int);by_cases hv:v<0
 ·simp only[if_pos hv];omega
 ·simp only[if_neg hv];omega
theorem xx(lo hi:Option Int)(n:Nat):u4 lo hi 1 (n:Int)=(((sIx n 0 lo:Nat):Int),((sIx n n hi:Nat):Int)):=by
 have Z:¬ ((1:Int)<0):=by omega
 unfold u4;simp only[Z,if_false];refine Pd ?_ ?_
 ·cases lo with
  |none=>rfl
  |some v=>exact yF v n 0
 ·cases hi with
  |none=>rfl
  |some v=>exact yF v n n
theorem xA(i j:Nat):j' (i:Int) (j:Int) 1=j - i:=by
 unfold j';have Z:(1:Int)>0:=by omega
 simp only[Z,if_true,Int.ediv_one];split<;>omega
theorem slicePart_{Q:Option Int->c_->Prop}(p:Re v o)(h:Q o s):er (f_ prog w) A (Builtin.Slice.slicePartIndex v) Q E s:=by
 cases p with
 |none=>exact slicePart_none h
 |int i t=>exact slicePart_int h
theorem sliceApplied_gen{U:dt}{X W:a_}{lo hi:Option Int}{n:Nat}{Q:Int×Int×Nat->c_->Prop}(hs:s.heap.IsSliceOf U X W .none)(T:Re X lo)(R:Re W hi)
  (h:Q (((sIx n 0 lo:Nat):Int),1,sIx n n hi - sIx n 0 lo) s):er (f_ prog w) A (t9 (.ref U) (aC (n:Int))) Q E s:=by
 obtain⟨os,Y,S,Z⟩:=id hs;unfold t9 Builtin.Slice.sliceFields;refine Mo (Mo (Ni Y Z (x:=X) rfl (Mo (Ni Y Z (x:=W) rfl (Mo (Ni Y Z (x:=.none) rfl (Mr ?_)))))));refine Mo (slicePart_none ?_);show er _ _ (if ((1:Int)==0)=b_ then _ else _) _ _ s;rw[if_neg (by decide)]
 refine Mo (slicePart_ T (Mo (slicePart_ R (Mo (Mr ?_)))));show er _ _ (match u4 lo hi 1 (n:Int)with|(lo,hi)=>aC (lo,(1:Int),j' lo hi 1)) _ _ s
 rw[xx lo hi n];show er _ _ (aC (((sIx n 0 lo:Nat):Int),(1:Int),j' ((sIx n 0 lo:Nat):Int) ((sIx n n hi:Nat):Int) 1)) _ _ s;rw[xA];exact Mr h
theorem BS(xs:Array a_)(i k:Nat):((eb k).filterMap fun(m:Nat)=>xs[((i:Int)+(m:Int)*1).toNat]?).toArray=((xs.toList.drop i).take k).toArray:=by
 have e:(fun(m:Nat)=>xs[((i:Int)+(m:Int)*1).toNat]?)=fun m=>xs[i+m]? :=by
  funext m;have:((i:Int)+(m:Int)*1).toNat=i+m:=by omega
  rw[this]
 rw[e];have:=pick_run xs i k;rw[List.filterMap_map]at this;have e2:((fun x=>xs[x]?)∘fun x=>i+x)=fun m=>xs[i+m]? :=rfl;rw[e2]at this;rw[this]
theorem getItem_tuple_cut{t T:dt}{items:Array a_}{R P:a_}{lo hi:Option Int}{Q:a_->c_->Prop}(Y:R3 s.heap t items)(hs:s.heap.IsSliceOf T R P .none)(N:Re R lo)(L:Re P hi)
  (O:¬ (sIx items.size 0 lo=0/\sIx items.size items.size hi=items.size))
  (h:Q (.ref s.heap.objs.size) {s with heap:=s.heap.push {cls:=.type "tuple",data:=.seq ((items.toList.drop (sIx items.size 0 lo)).take (sIx items.size items.size hi - sIx items.size 0 lo)).toArray}})
  (J:items.size<=sizeLine):er (f_ prog w) A (Q3 (.ref t) (.ref T)) Q E s:=by
 have Z:sizeOk (.seq ((items.toList.drop (sIx items.size 0 lo)).take (sIx items.size items.size hi - sIx items.size 0 lo)).toArray):=by
  show((items.toList.drop (sIx items.size 0 lo)).take (sIx items.size items.size hi - sIx items.size 0 lo)).toArray.size<=sizeLine;rw[MB,NI,Qy,Of];omega
 have I:sIx items.size items.size hi<=items.size:=G8 _ _ (Ms _) hi;obtain⟨os,S,W,K⟩:=id hs;have X:s.TypeIs (.ref T) "slice":=⟨os,S,W⟩;unfold Q3
 try with_reducible refine Nd ?_
 first|refine Mo (Mr ?_)|skip
 refine Mo (Qb Y.typeIs (by decide) ?_)
 refine Mo (wpAny_callSpecial?_slot (name:=hY "__getitem__") Y.typeIs Nl
  (Ng Nl Y.typeIs PC ?_ (PU _ _)))
 show er _ _ (t_ (.ref t)>>=_) _ _ s;refine Mo (Q9 Y ?_);refine Mo (Ow X ?_);rw[if_pos (by decide)]
 refine Mo (sliceApplied_gen hs N L ?_);have U:¬ ((((sIx items.size 0 lo:Nat):Int)==0 && (1:Int)==1 && (sIx items.size items.size hi - sIx items.size 0 lo)==items.size)=b_):=by
  intro q;rw[M5,M5]at q;have H:((sIx items.size 0 lo:Nat):Int)=0:=QN q.1.1;have G:sIx items.size items.size hi - sIx items.size 0 lo=items.size:=QN q.2;exact O ⟨by omega,by omega⟩
 show er _ _ (if (((sIx items.size 0 lo:Nat):Int)==0 && (1:Int)==1 && (sIx items.size items.size hi - sIx items.size 0 lo)==items.size)=b_ then _ else _) _ _ s;rw[if_neg U,BS];first
  |exact Mo (m:=j3 _) (M0 (Mr ⟨_,rfl,Mr h⟩) Z)
  |exact Mo (m:=j3 _) (M0 (Mo (Mr (Mr ⟨_,rfl,Mr h⟩))) Z)
  |exact Mo (Mo (m:=j3 _) (M0 (Mr (Mr ⟨_,rfl,Mr h⟩)) Z))
  |exact Mo (Mo (m:=j3 _) (M0 (Mr ⟨_,rfl,Mr h⟩) Z))
end
end HT
namespace L2
open PySem PySem.Spec PyProof.Rows
abbrev TO:=St->Hp->(Option Int->Hp->Prop)->Prop
def PO(X:Cx)(e:Option Expr)(t:TO):Prop:=
 ∀(pins:List (dt×Obj)) (s:c_) (σ:St) (H:Hp) (Q:Option Int->Hp->Prop),Inv X pins σ H s->t σ H Q->
  er (f_ X.prog X.w) X.A (evalPart e X.env) (fun u s'=>∃o H',Inv X pins σ H' s'/\Re u o/\Q o H') X.xe s
def Eo:TO:=fun _ H Q=>Q none H
def Jv(t:TE):TO:=fun σ H Q=>t σ H fun x H1=>∃i,x= .int i/\Q (ar i) H1
theorem PB{ns:List Int}:∀{us:List a_},bw (ns.map V.int) us->n7 us ns:=by
 induction ns with
 |nil=>intro us r;rw[NR]at r;cases r;exact .nil
 | cons n ns ih=>
  intro us r;rw[MU]at r;cases r with
  |cons r1 r2=>
   obtain⟨t,e⟩:=r1;subst e;exact .cons n t (ih r2)
section
variable {X:Cx}{e:Expr}{te:TE}{lo hi:Option Expr}{tl th:TO}{pos p2:Pos}
theorem Ep:PO X none Eo:=by
 intro pins s σ H Q I h;rw[Q_];exact Mr ⟨none,H,I,.none,h⟩
theorem yG(h:PE X e te):PO X (ar e) (Jv te):=by
 intro pins s σ H Q I hw;rw[evalPart_some];refine eJ (h pins s σ H _ I hw) fun u s1 ⟨x,H1,I1,r1,q1⟩=>?_;obtain⟨i,rfl,q⟩:=q1;obtain⟨t,rfl⟩:=r1;exact⟨ar i,H1,I1,.int i t,q⟩
def FX(X:Cx)(r:V->Option Int->Option Int->Hp->VK->Prop):Prop:=
 ∀(pins:List (dt×Obj)) (s:c_) (σ:St) (H:Hp) (x:V) (v vl vu:a_) (lo hi:Option Int) (sl:dt) (Q:VK),Inv X pins σ H s->RelV x v->s.heap.IsSliceOf sl vl vu .none->Re vl lo->Re vu hi->r x lo hi H Q->
  ∃T id,typeLookup (.type T) "__getitem__"=aC (ar (.builtin id))/\s.TypeIs v T/\er (f_ X.prog X.w) X.A (Q3 v (.ref sl)) (EP X pins σ Q) X.xe s
theorem FX.or{r S:V->Option Int->Option Int->Hp->VK->Prop}(h:FX X r)(h':FX X S):FX X (fun x lo hi H Q=>r x lo hi H Q\/S x lo hi H Q):=by
 intro pins s σ H x v Z T lo hi Y Q I W hs U pu q;rcases q with q|q
 ·exact h pins s σ H x v Z T lo hi Y Q I W hs U pu q
 ·exact h' pins s σ H x v Z T lo hi Y Q I W hs U pu q
def Mc(r:V->Option Int->Option Int->Hp->VK->Prop)(te:TE)(tl th:TO):TE:=fun σ H Q=>te σ H fun x H1=>tl σ H1 fun l H2=>th σ H2 fun u H3=>r x l u H3 Q
theorem BU(O:FX X r)(S:PE X e te)(Z:PO X lo tl)(W:PO X hi th):PE X (.Subscript e (.Slice lo hi none p2) pos) (Mc r te tl th):=by
 intro pins s σ H Q I h;refine RS (eJ (S pins s σ H _ I h) fun v s1 ⟨x,H1,I1,r1,q1⟩=>?_);refine wpAny_Slice (eJ (Z pins s1 σ H1 _ I1 q1) fun vl s2 ⟨l,H2,I2,pl,q2⟩=>eJ (W pins s2 σ H2 _ I2 q2) fun vu s3 ⟨u,H3,I3,pu,q3⟩=>?_);rw[Q_];refine Mr ?_;have Y:Inv X pins σ H3 {s3 with heap:=s3.heap.push {cls:=.type "slice",data:=.fields #[vl,vu,.none]}}:=I3.kept (t':=s3.toks) fun b N q=>Mp _ q;obtain⟨T,id,R,U,P⟩:=O pins {s3 with heap:=s3.heap.push {cls:=.type "slice",data:=.fields #[vl,vu,.none]}} σ H3 x v vl vu l u s3.heap.objs.size Q Y r1 (Heap.IsSliceOf.new ..) pl pu q3;show er (f_ X.prog X.w) X.A (subscriptTail e (.Slice lo hi none p2) v (.ref s3.heap.objs.size)) (EP X pins σ Q) X.xe {s3 with heap:=s3.heap.push {cls:=.type "slice",data:=.fields #[vl,vu,.none]}};exact Sk (ops:=[.ref s3.heap.objs.size,v]) U R P (by with_unfolding_all rfl)
def rW(xs:List V)(lo hi:Option Int):List V:=(xs.drop (HT.sIx xs.length 0 lo)).take (HT.sIx xs.length xs.length hi - HT.sIx xs.length 0 lo)
theorem oA(xs:List V)(lo hi:Option Int):(rW xs lo hi).length<=xs.length:=by
 unfold rW;rw[NI,Qy];omega
def Ll(K:d_):V->Option Int->Option Int->Hp->VK->Prop:=fun x lo hi H Q=>∃a xs,x= .ref a/\lJ K H a xs/\
 ¬ (HT.sIx xs.length 0 lo=0/\HT.sIx xs.length xs.length hi=xs.length)/\∀p,H p=none->Q (.ref p) (upd H p (.tup (rW xs lo hi)))
theorem G9:FX X (Ll X.K):=by
 intro pins s σ H x v S O lo hi R Q I U hs T pu h;obtain⟨a,xs,rfl,W,hw,q⟩:=h;cases U;obtain⟨its,r,Z,Y⟩:=I.tuple W;have hlen:its.toArray.size=xs.length:=by rw[MB];exact r.length.symm
 refine⟨"tuple",_,PyProof.Rows.slot_tuple_getitem.lookup,Z.typeIs,?_⟩;refine HT.getItem_tuple_cut Z hs T pu (by rw[hlen];exact hw) ?_ (by rw[hlen];exact Y)
 rw[hlen];refine⟨.ref s.heap.objs.size,_,I.laid (t':=s.toks) (o:=.tup (rW xs lo hi)) (fun b P q=>Mp _ q) (Ms _) ?_,rfl,q _ (I.hok.fresh (Ms _))⟩;exact⟨ME (oA xs lo hi) Y,_,(r.drop (HT.sIx xs.length 0 lo)).take (HT.sIx xs.length xs.length hi - HT.sIx xs.length 0 lo),QY _ _⟩
def Jw(K:d_):R2:=fun x y H Q=>∃a b ns ms,x= .ref a/\y= .ref b/\lJ K H a (ns.map V.int)/\lJ K H b (ms.map V.int)/\Q (.bl (HT.lexLt ns ms)) H
theorem xB(W:X.A.units<u_):jz X (j_ .Lt) (Jw X.K):=by
 intro pins s σ H x y v u Q I T L h;obtain⟨a,b,ns,ms,rfl,rfl,Y,P,q⟩:=h;cases T;cases L;obtain⟨its,O,U,_⟩:=I.tuple Y;obtain⟨Z,S,p2,_⟩:=I.tuple P;have N:n7 its.toArray.toList ns:=PB O;have R:n7 Z.toArray.toList ms:=PB S;exact HT.lt_tupInts U p2 N R W ⟨.bl (HT.lexLt ns ms),H,I,rfl,q⟩
def Jx(K:d_):R2:=fun x y H Q=>∃a b xs ys,x= .ref a/\y= .ref b/\lJ K H a xs/\lJ K H b ys/\xs≠[]/\xs.length+ys.length<=sizeLine/\
 (ys=[]->Q (.ref a) H)/\(ys≠[]->∀p,H p=none->Q (.ref p) (upd H p (.tup (xs++ys))))
theorem bw.nil_iff(r:bw xs us):us=[]↔xs=[]:=by
 cases r with
 |nil=>simp
 |cons _ _=>simp
theorem Er:jz X (t8 .Add) (Jx X.K):=by
 intro pins s σ H x y v u Q I O J h;obtain⟨a,b,xs,ys,rfl,rfl,R,N,T,U,L,S⟩:=h;cases O;cases J;obtain⟨its,Y,P,_⟩:=I.tuple R;obtain⟨W,Z,p2,_⟩:=I.tuple N;refine HT.cat_tup P p2 (fun z=>T (Y.nil_iff.mp z)) (fun z=>⟨.ref a,H,I,rfl,L (Z.nil_iff.mp z)⟩) (fun z=>?_) (by rw[<-Y.length, <-Z.length];exact U)
 refine⟨.ref s.heap.objs.size,_,I.laid (t':=s.toks) (o:=.tup (xs++ys)) (fun b G q=>Mp _ q) (Ms _) ?_,rfl,S (fun w=>z (Z.nil_iff.mpr w)) _ (I.hok.fresh (Ms _))⟩;exact⟨by rw[Mu];exact U,_,Y.append Z,QY _ _⟩
end
end L2
namespace L2
open PySem PySem.Spec PyProof.Rows
def As(n:Nat)(i:Int):Option Nat:=if 0<=i then (if i<n then ar i.toNat else none)else if -(n:Int)<=i then ar (i+n).toNat else none
def k9{α:Type}(xs:List α)(i:Int):Option α:=(As xs.length i).bind fun j=>xs[j]?
theorem yH(h:As n i=ar j):Rw i n=ar j/\j<n/\ -(n:Int)<=i/\i<n:=by
 unfold As at h;by_cases h0:0<=i
 ·rw[if_pos h0]at h;by_cases h1:i<n
  ·rw[if_pos h1]at h;have e:i.toNat=j:=MS h;exact⟨by rw[RC h0 h1,e],by omega,by omega,h1⟩
  ·rw[if_neg h1]at h;cases h
 ·rw[if_neg h0]at h;by_cases h1: -(n:Int)<=i
  ·rw[if_pos h1]at h;have e:(i+n).toNat=j:=MS h;exact⟨by rw[seqIndex_neg (by omega) h1,e],by omega,h1,by omega⟩
  ·rw[if_neg h1]at h;cases h
theorem tZ{Z:Type}{xs:List Z}{i:Int}{v:Z}(h:k9 xs i=ar v):∃j,Rw i xs.length=ar j/\xs[j]? =ar v/\j<xs.length/\ -(xs.length:Int)<=i/\i<xs.length:=by
 unfold k9 at h;cases e:As xs.length i with
 |none=>rw[e]at h;cases h
 |some j=>
  rw[e]at h;obtain⟨W,U,Y,X⟩:=yH e;exact⟨j,W,h,U,Y,X⟩
def ua(b:Expr):Prop:=∀o i,subscripted b dV o i=operate [o,i] (Q3 o i)
def D7(X:Cx)(r:R2):Prop:=
 ∀(value slice:Expr) (pins:List (dt×Obj)) (s:c_) (σ:St) (H:Hp) (x y:V) (v u:a_) (Q:VK),Inv X pins σ H s->RelV x v->RelV y u->r x y H Q->
  subscripted slice dV v u=operate [v,u] (Q3 v u)->er (f_ X.prog X.w) X.A (subscriptTail value slice v u) (EP X pins σ Q) X.xe s
def Lm(X:Cx)(id:String)(r:V->List V->Hp->VK->Prop):Prop:=
 ∀(pins:List (dt×Obj)) (s:c_) (σ:St) (H:Hp) (x:V) (xs:List V) (v:a_) (us:List a_) (Q:VK),Inv X pins σ H s->RelV x v->bw xs us->r x xs H Q->
  er (f_ X.prog X.w) X.A (call (.builtin id) (v::us)) (EP X pins σ Q) X.xe s
section
variable {X:Cx}{a b:Expr}{ta tb:TE}{pos:Pos}
theorem D7.or{r Y:R2}(h:D7 X r)(h':D7 X Y):D7 X (fun x y H Q=>r x y H Q\/Y x y H Q):=by
 intro value slice pins s σ H x y v u Q I Z W q hs;rcases q with q|q
 ·exact h value slice pins s σ H x y v u Q I Z W q hs
 ·exact h' value slice pins s σ H x y v u Q I Z W q hs
theorem Jy(R:D7 X r)(Z:PE X a ta)(U:PE X b tb)(hs:ua b):PE X (.Subscript a b pos) (Jo r ta tb):=by
 intro pins s σ H Q I h;exact RS (GW Z U I h fun v u s2 x y T Y W S q=>R a b pins s2 σ T x y v u Q Y W S q (hs _ _))
def Jz(K:d_):R2:=fun x y H Q=>∃p xs i v,x= .ref p/\y= .int i/\kY K H p xs/\k9 xs i=ar v/\Q v H
def JA(K:d_):R2:=fun x y H Q=>∃p xs i v,x= .ref p/\y= .int i/\lJ K H p xs/\k9 xs i=ar v/\Q v H
def JB:R2:=fun x y H Q=>∃z i c,x= .str z/\y= .int i/\z.length<=sizeLine/\k9 z.cps.toList i=ar c/\Q (.str ⟨#[c]⟩) H
theorem Es:D7 X (Jz X.K):=by
 intro value slice pins s σ H x y v u Q I R N h hs;obtain⟨p,xs,i,z,rfl,rfl,J,he,q⟩:=h;cases R;obtain⟨t,rfl⟩:=N;obtain⟨its,r,W,G⟩:=I.list J;obtain⟨j,Z,P,E,O,S⟩:=tZ he;obtain⟨w,T,Y⟩:=r.get P;have L:=r.length;have F:=pU;have fin:EP X pins σ Q w s:=⟨z,H,I,Y,q⟩;by_cases h0:0<=i
 ·have U:i.toNat=j:=by
   rw[RC h0 S]at Z;exact MS Z
  exact item_listR W.isList h0 (by omega) (by rw[U];simpa using T) fin hs
 ·have U:(i+(its.toArray.size:Int)).toNat=j:=by
   rw[seqIndex_neg (by omega) O]at Z
   rw[MB, <-L];exact MS Z
  exact subscriptTail_builtinR (x:=w) W.isList.typeIs slot_list_getitem.lookup
   (wpAny_getItem_list_neg (Q:=fun r s'=>r=w/\EP X pins σ Q r s') W.isList (by omega) (by rw[MB]<;>omega) (by omega) (by rw[U];simpa using T) ⟨rfl,fin⟩) hs
theorem Ha:D7 X (JA X.K):=by
 intro value slice pins s σ H x y v u Q I W T h hs;obtain⟨p,xs,i,z,rfl,rfl,O,he,q⟩:=h;cases W;obtain⟨t,rfl⟩:=T;obtain⟨its,r,Y,J⟩:=I.tuple O;obtain⟨j,P,U,F,L,N⟩:=tZ he;obtain⟨w,S,Z⟩:=r.get U;have R:=r.length;have G:=pU;have fin:EP X pins σ Q w s:=⟨z,H,I,Z,q⟩;exact subscriptTail_builtinR (x:=w) Y.typeIs slot_tuple_getitem.lookup
  (getItem_tuple (j:=j) (Q:=fun r s'=>r=w/\EP X pins σ Q r s') Y (by omega) (by omega) (by rw[MB, <-R];exact P) (by simpa using S) ⟨rfl,fin⟩) hs
theorem Hb:D7 X JB:=by
 intro value slice pins s σ H x y v u Q I U R h hs;obtain⟨z,i,c,rfl,rfl,N,he,q⟩:=h;obtain⟨t,rfl⟩:=U;obtain⟨t',rfl⟩:=R;obtain⟨j,Z,T,O,S,W⟩:=tZ he;have Y:z.cps.toList.length=z.length:=by simp[Str.length]
 rw[Y]at Z S W;have P:=pU;exact Sk (typeIs_str s z t) slot_str_getitem.lookup (getItem_str (c:=c) (by
  have e1:decide (i< -(2 ^ 63:Int))=false:=MP (by omega)
  have e2:decide (i ≥ 2 ^ 63)=false:=MP (by omega)
  rw[e1,e2,Bool.or_false]) (by rw[Z];simpa using T) ⟨.str ⟨#[c]⟩,H,I.tok _,⟨_,rfl⟩,q⟩) hs
def LR(K:d_):R2:=fun x y H Q=>Jz K x y H Q\/JA K x y H Q\/JB x y H Q
theorem Hd:D7 X (LR X.K):=Es.or (Ha.or Hb)
theorem xC(its:List a_)(n j:Nat)(u:a_):m1 (·.setIfInBounds j u) {cls:=.type "list",data:=.seq its.toArray n}={cls:=.type "list",data:=.seq (its.set j u).toArray n}:=by
 simp[m1]
theorem Inv.lst{Z:List (dt×Obj)}{Y:St}{H:Hp}{s:c_}{p:dt}{xs:List V}(I:Inv X Z Y H s)(h:H p=ar (.lst xs)):
  ∃(its:List a_) (n:Nat),bw xs its/\s.heap.get? p=ar {cls:=.type "list",data:=.seq its.toArray n}/\xs.length<=sizeLine:=by
 obtain⟨z,its,n,r,e⟩:=I.hok p _ h;exact⟨its,n,r,e,z⟩
theorem Inv.lstUpd{H:Hp}{its its':List a_}{f:Obj->Obj}(I:Inv X pins σ H s)(h:H p=ar (.lst xs))
  (Y:s.heap.get? p=ar {cls:=.type "list",data:=.seq its.toArray n}) (Z:f {cls:=.type "list",data:=.seq its.toArray n}={cls:=.type "list",data:=.seq its'.toArray n'}) (r:bw ys its') (W:ys.length<=sizeLine) (t:Nat):
  Inv X pins σ (upd H p (.lst ys)) {s with heap:=s.heap.update p f,toks:=t}:=by
 have e:(s.heap.update p f).get? p=ar {cls:=.type "list",data:=.seq its'.toArray n'}:=by
  rw[Np f Y (by rw[Z]<;>rfl),Z]
 refine I.write (x:=p) (e:=p) (by rw[h];trivial) (.inl rfl) (fun b u U q=>(Na _ _ (kr U)).trans q) ⟨_,e⟩ ?_
 exact⟨W,its',n',r,e⟩
def FY:V->V->V->Hp->(Hp->Prop)->Prop:=fun o i v H Q=>∃p xs k j,o= .ref p/\i= .int k/\H p=ar (.lst xs)/\As xs.length k=ar j/\Q (upd H p (.lst (xs.set j v)))
theorem set_list:Ji X FY:=by
 intro pins s σ H o i v E B u Q I K J G h;obtain⟨p,xs,k,j,rfl,rfl,R,L,q⟩:=h;cases K;obtain⟨t,rfl⟩:=J;obtain⟨its,n,r,U,N⟩:=I.lst R;obtain⟨Z,F,O,S⟩:=yH L;have Y:=r.length;have C:=pU;have P:Inv X pins σ (upd H p (.lst (xs.set j v))) {s with heap:=s.heap.update p (m1 (·.setIfInBounds j u))}:=
  I.lstUpd R U (xC its n j u) (r.set G j) (by rw[OZ];exact N) s.toks
 by_cases h0:0<=k
 ·have T:k.toNat=j:=by
   rw[RC h0 S]at Z;exact MS Z
  exact W.ki_setAt U h0 (by omega) (by rw[MB, <-Y];exact S) (by rw[T];exact⟨_,P,q⟩)
 ·have T:(k+(its.toArray.size:Int)).toNat=j:=by
   rw[seqIndex_neg (by omega) O]at Z
   rw[MB, <-Y];exact MS Z
  exact W.ki_setBack U (by omega) (by rw[MB, <-Y];exact O) (by omega) (by rw[T];exact⟨_,P,q⟩)
theorem ub(lo hi:Option Int)(n:Nat):(wg lo hi none n).1=((HT.sIx n 0 lo:Nat):Int)/\(wg lo hi none n).2.1=((HT.sIx n n hi:Nat):Int)/\(wg lo hi none n).2.2=1:=by
 refine⟨?_,?_,rfl⟩
 ·cases lo with
  |none=>simp[wg,HT.sIx]
  |some i=>
   simp only[wg,HT.sIx,Option.getD_none,show(1:Int)>0 by decide,if_true]
   by_cases h:i<0
   ·simp only[h,if_true]<;>omega
   ·simp only[h,if_false]<;>omega
 ·cases hi with
  |none=>simp[wg,HT.sIx]
  |some i=>
   simp only[wg,HT.sIx,Option.getD_none,show(1:Int)>0 by decide,if_true]
   by_cases h:i<0
   ·simp only[h,if_true]<;>omega
   ·simp only[h,if_false]<;>omega
theorem rX(its:List a_)(lo hi:Option Int):slicePick its.toArray lo hi none=((its.drop (HT.sIx its.length 0 lo)).take (HT.sIx its.length its.length hi - HT.sIx its.length 0 lo)).toArray:=by
 obtain⟨W,Y,Z⟩:=ub lo hi its.toArray.size;unfold slicePick;rw[W,Y,Z];simp only[sliceRange_one,pick_run,mu]<;>rfl
def Ln(K:d_):V->Option Int->Option Int->Hp->VK->Prop:=fun x lo hi H Q=>∃a xs,x= .ref a/\kY K H a xs/\∀p,H p=none->Q (.ref p) (upd H p (.lst (rW xs lo hi)))
theorem Et:FX X (Ln X.K):=by
 intro pins s σ H x v S O lo hi R Q I W hs U pu h;obtain⟨a,xs,rfl,Y,q⟩:=h;cases W;obtain⟨its,r,Z,T⟩:=I.list Y;have hlen:=r.length;refine⟨"list",_,slot_list_getitem.lookup,Z.isList.typeIs,?_⟩;refine wpAny_getItem_list_slice Z.isList hs U pu .none (by simp) ?_ (by rw[MB]<;>omega)
 rw[rX, <-hlen];refine⟨.ref s.heap.objs.size,_,I.laid (t':=s.toks) (o:=.lst (rW xs lo hi)) (fun b P q=>Mp _ q) (Ms _) ?_,rfl,q _ (I.hok.fresh (Ms _))⟩;exact⟨ME (oA xs lo hi) T,_,0,(r.drop (HT.sIx xs.length 0 lo)).take (HT.sIx xs.length xs.length hi - HT.sIx xs.length 0 lo),Mz _ rfl⟩
theorem uc:ef X (.builtin "len") (fun xs H Q=>∃p ys,xs=[.ref p]/\(kY X.K H p ys\/lJ X.K H p ys)/\Q (.int ys.length) H):=by
 intro pins s σ H xs us Q I r h;obtain⟨p,ys,rfl,Z,q⟩:=h;obtain⟨u,rfl,U⟩:=vals1 r;cases U;have S:=pU;rcases Z with Z|Z
 ·obtain⟨its,W,Y,T⟩:=I.list Z;have hlen:=W.length;exact Calls.call_len_list Y.isList (by simp only[mu]<;>omega) ⟨.int ys.length,H,I.tok _,⟨s.toks+1,by rw[MB,hlen]⟩,q⟩
 ·obtain⟨its,W,Y,T⟩:=I.tuple Z;have hlen:=W.length;exact len_tuple Y (by simp only[mu]<;>omega) ⟨.int ys.length,H,I.tok _,⟨s.toks+1,by rw[MB,hlen]⟩,q⟩
theorem ef.or{r Z:List V->Hp->VK->Prop}(h:ef X f r)(h':ef X f Z):ef X f (fun xs H Q=>r xs H Q\/Z xs H Q):=by
 intro pins s σ H xs us Q I rs q;rcases q with q|q
 ·exact h pins s σ H xs us Q I rs q
 ·exact h' pins s σ H xs us Q I rs q
theorem ud:ef X (.type "list") (fun xs H Q=>∃p ys,xs=[.ref p]/\(kY X.K H p ys\/lJ X.K H p ys)/\∀l,H l=none->Q (.ref l) (upd H l (.lst ys))):=by
 intro pins s σ H xs us Q I r h;obtain⟨p,ys,rfl,T,q⟩:=h;obtain⟨u,rfl,O⟩:=vals1 r;cases O;have fin:∀(its:List a_),bw ys its->ys.length<=sizeLine->∀(h':gd) (Z:Nat),(∀b o',s.heap.get? b=ar o'->h'.get? b=ar o')->
   h'.get? s.heap.objs.size=ar {cls:=.type "list",dict:=none,data:=.seq its.toArray Z,slots:= #[]}->EP X pins σ Q (.ref s.heap.objs.size) {s with heap:=h'}:=fun its Y U h' Z W e=>
  ⟨.ref s.heap.objs.size,_,I.laid (t':=s.toks) W (Ms _) (show bB X.prog X.w _ h' _ (.lst ys)from⟨U,its,Z,Y,e⟩),rfl,q _ (I.hok.fresh (Ms _))⟩
 rcases T with T|T
 ·obtain⟨its,Y,R,U⟩:=I.list T;have hlen:=Y.length;obtain⟨o,S,P,n,hd⟩:=R.isList;exact call_list_seq p (.inl rfl) S P hd (fun h' Z W e=>fin its Y U h' Z W e) (by simp only[mu]<;>omega)
 ·obtain⟨its,Y,R,U⟩:=I.tuple T;have hlen:=Y.length;obtain⟨o,S,P,n,hd⟩:=R;exact call_list_seq p (.inr rfl) S P hd (fun h' Z W e=>fin its Y U h' Z W e) (by simp only[mu]<;>omega)
theorem rY:ef X (.type "tuple") (fun xs H Q=>∃p ys,xs=[.ref p]/\((kY X.K H p ys/\∀l,H l=none->Q (.ref l) (upd H l (.tup ys)))\/(lJ X.K H p ys/\Q (.ref p) H))):=by
 intro pins s σ H xs us Q I r h;obtain⟨p,ys,rfl,h⟩:=h;obtain⟨u,rfl,S⟩:=vals1 r;cases S;rcases h with⟨hq,q⟩|⟨hq,q⟩
 ·obtain⟨its,Y,Z,U⟩:=I.list hq;have hlen:=Y.length;refine call_tuple_list Z.isList (fun h' R=>?_) (by simp only[mu]<;>omega)
  have W:Inv X pins σ H {s with heap:=h'}:=I.kept (t':=s.toks) R;have T:Inv X pins σ (upd H h'.objs.size (.tup ys)) {s with heap:=h'.push {cls:=.type "tuple",data:=.seq its.toArray}}:=
   W.laid (t':=s.toks) (fun b o e=>Mp _ e) (Ms _) (show bB X.prog X.w _ _ _ (.tup ys)from⟨U,its,Y,QY _ _⟩)
  exact⟨.ref h'.objs.size,_,T,rfl,q _ (W.hok.fresh (Ms _))⟩
 ·obtain⟨its,Y,Z,U⟩:=I.tuple hq;exact call_tuple_same Z ⟨.ref p,H,I,rfl,q⟩
def Lo(K:d_)(T:String)(x:V)(H:Hp):Prop:=match x with
 | .str _=>T="str"
 | .int _=>T="int"
 | .ref p=>(T="list"/\∃xs,kY K H p xs)\/(T="tuple"/\∃o,K.lookup p=ar o/\o.cls= .type "tuple"/\o.dict=none)\/
   (T="dict"/\((∃kvs,H p=ar (.dK kvs))\/∃kvs,H p=ar (.dT kvs)))\/(T="set"/\∃S n,H p=ar (.set S n))
 |_=>False
theorem He(I:Inv X pins σ H s)(r:RelV x v)(Z:Lo X.K T x H):
  s.TypeIs v T/\∀a,v= .ref a->∃ob,s.heap.get? a=ar ob/\ob.dict=none:=by
 cases x with
 |str z=>
  obtain⟨t,rfl⟩:=r;cases (show T="str" from Z);exact⟨typeIs_str s z t,fun _ e=>nomatch e⟩
 |int i=>
  obtain⟨t,rfl⟩:=r;cases (show T="int" from Z);exact⟨typeIs_int s i t,fun _ e=>nomatch e⟩
 | ref p=>
  cases r;rcases Z with⟨rfl,xs,hq⟩|⟨rfl,o,hk,hc,hd⟩|⟨rfl,hk⟩|⟨rfl,S,n,hk⟩
  ·obtain⟨its,_,Y,_⟩:=I.list hq;refine⟨Y.isList.typeIs,fun a e=>?_⟩;cases e;obtain⟨o,n,e,c,hd,_⟩:=Y;exact⟨o,e,hd⟩
  ·refine⟨⟨o,I.kIn p o hk,hc⟩,fun a e=>?_⟩;cases e;exact⟨o,I.kIn _ o hk,hd⟩
  ·have z:∃o,s.heap.get? p=ar o/\o.ExactDict:=by
    rcases hk with⟨kvs,hk⟩|⟨kvs,hk⟩
    ·obtain⟨_,_,_,_,o,_,_,e,ex,_⟩:=I.hok p _ hk;exact⟨o,e,ex⟩
    ·obtain⟨_,_,_,_,o,_,_,e,ex,_⟩:=I.hok p _ hk;exact⟨o,e,ex⟩
   obtain⟨o,e,ex⟩:=z;refine⟨⟨o,e,ex.1⟩,fun a e2=>?_⟩;cases e2;exact⟨o,e,ex.2.1⟩
  ·obtain⟨o,_,_,_,e,ex,_⟩:=I.hok p _ hk;refine⟨⟨o,e,ex.1⟩,fun a e2=>?_⟩;cases e2;exact⟨o,e,ex.2.1⟩
 |_=>exact hJ Z
def Md(K:d_)(T:String)(r:V->List V->Hp->VK->Prop)(to:TE)(t:TA):TE:=fun σ H Q=>to σ H fun x H1=>Lo K T x H1/\t σ H1 fun xs H2=>r x xs H2 Q
variable {o e:Expr}{es:List Expr}{to:TE}{t:TA}{name:Str}{apos cpos:Pos}{T id:String}{r:V->List V->Hp->VK->Prop}
theorem JC(F:PlainAttrs T)(U:Slot T name id)(R:typeOf (.builtin id)=aC (.type "method_descriptor"))(J:Lm X id r)(N:PE X o to)(O:PA X (e::es) t)
  (Y:o_ o name X.env (hS o X.env)=hS o X.env:=by rfl)
  (S:((pa cpos (ee (e::es) X.env)).all (fun x=> !x.1) && (backToKw cpos (keywordEach [] X.env)).all (fun x=>x.1.isSome)
   && decide ((e::es).length+([]:List RJ).length+(if ([]:List RJ).isEmpty then 0 else 1)<30))=true:=by rfl)
  (W:(apos.endLine==cpos.line)=true:=by rfl) (hs:ee (e::es) X.env=(dV,hS e X.env)::ee es X.env:=by rfl) (Z:(pa cpos (ee es X.env)).any (·.1)=false:=by rfl):
  PE X (.Call (.Attribute o name apos) (e::es) [] cpos) (Md X.K T r to t):=by
 intro pins s σ H Q I h;refine wpAny_Call_method_late Y S W rfl (eJ (N pins s σ H _ I h) fun v s1 ⟨x,H1,I1,r1,ty,q1⟩=>?_);obtain⟨L,G⟩:=He I1 r1 ty;refine⟨T,id,F,U,R,L,G,?_⟩;have P:=O cpos pins s1 σ H1 _ I1 q1;rw[hs]at P⊢;refine Calls.callWith_builtin (by show(dV||(pa cpos (ee es X.env)).any (·.1))=dV;rw[Z]<;>rfl) (Pp ?_)
 exact eJ P fun us s2 ⟨vs,H2,I2,r2,q2⟩=>J pins s2 σ H2 x vs v us Q I2 r1 r2 q2
end
end L2
namespace L2
open PySem PySem.Spec PyProof.Rows
def LS(X:Cx)(id:String)(r:V->List V->Hp->VK->Prop):Prop:=
 ∀(pins:List (dt×Obj)) (s:c_) (σ:St) (H:Hp) (x:V) (xs:List V) (v:a_) (us:List a_) (Q:VK),Inv X pins σ H s->RelV x v->bw xs us->r x xs H Q->
  er (f_ X.prog X.w) X.A (call (.builtin id) (v::us)) (EP X pins σ Q) X.xe s
theorem bw.one:∀{x:V} {us:List a_},bw [x] us->∃u,us=[u]/\RelV x u
 |_,_,.cons r .nil=>⟨_,rfl,r⟩
theorem bw.eraseIdx:∀{xs:List V} {us:List a_} (i:Nat),bw xs us->bw (xs.eraseIdx i) (us.eraseIdx i)
 |_,_,_,.nil=>.nil
 |_,_,0,.cons _ t=>t
 |_,_,i+1,.cons r t=>.cons r (bw.eraseIdx i t)
theorem bw.reverse(h:bw xs us):bw xs.reverse us.reverse:=by
 induction h with
 |nil=>exact .nil
 |cons r t ih=>rw[O9,O9];exact bw.append ih (.cons r .nil)
theorem sJ{Z:Type}:∀(l:List Z) (i:Nat),(l.eraseIdx i).length<=l.length
 |[],_=>Ms _
 |_::_,0=>Og _
 |_::r,i+1=>OP (sJ r i)
section
variable {X:Cx}{pins:List (dt×Obj)}{σ:St}{H:Hp}{s:c_}{l b:dt}{xs ys zs:List V}
theorem Inv.lset{its its':List a_}{f:Array a_->Array a_}(I:Inv X pins σ H s)(S:H l=ar (.lst xs))
  (e:s.heap.get? l=ar {cls:=.type "list",data:=.seq its.toArray n}) (Y:f its.toArray=its'.toArray) (T:bw ys its') (W:ys.length<=sizeLine):
  Inv X pins σ (upd H l (.lst ys)) {s with heap:=s.heap.update l (m1 f),toks:=t'}:=by
 have q:=PySem.IsL.update e f;rw[Y]at q;refine I.write (x:=l) (e:=l) (by rw[S];exact trivial) (.inl rfl) (fun R u U Z=>(Na s.heap (m1 f) (kr U)).trans Z) ⟨_,q⟩ ?_
 exact⟨W,its',_,T,q⟩
theorem Inv.lnew(I:Inv X pins σ H s)(Z:bw ys its)(Y:ys.length<=sizeLine):
  Inv X pins σ (upd H s.heap.objs.size (.lst ys)) {s with heap:=s.heap.push {cls:=.type "list",data:=.seq its.toArray},toks:=t'}:=
 I.laid (fun _ _ q=>Mp _ q) (Ms _) ⟨Y,its,0,Z,Mz _ rfl⟩
theorem Inv.fresh(I:Inv X pins σ H s):H s.heap.objs.size=none:=I.hok.fresh (Ms _)
theorem Inv.lstM(I:Inv X pins σ H s)(Z:H l=ar (.lst xs)):xs.length<=sizeLine/\∃(its:List a_) (n:Nat),bw xs its/\xs.length=its.length/\s.heap.get? l=ar {cls:=.type "list",data:=.seq its.toArray n}:=by
 obtain⟨z,its,n,r,e⟩:=I.hok l _ Z;exact⟨z,its,n,r,r.length,e⟩
theorem BV(h:n<=sizeLine):vn n=false:=by
 unfold vn;exact MP (by omega)
end
section
variable {X:Cx}
def yI:V->List V->Hp->VK->Prop:=fun x vs H Q=>∃l xs y,x= .ref l/\vs=[y]/\H l=ar (.lst xs)/\xs.length<sizeLine/\Q .non (upd H l (.lst (xs++[y])))
theorem sL:LS X "list.append" yI:=by
 intro pins s σ H x vs v us Q I Y U h;obtain⟨l,xs,y,rfl,rfl,Z,S,q⟩:=h;cases Y;obtain⟨u,rfl,W⟩:=U.one;obtain⟨z,its,n,r,T,e⟩:=I.lstM Z;refine RT F.slot_list_append ⟨_,e,rfl⟩ F.entry_list_append (F.args_list_append_2 _ _) (PySem.list_append l its.toArray n u (by rw[MB];omega)) ⟨e,?_⟩
 refine⟨.non,_,I.lset (its':=its++[u]) Z e (by simp) (r.append (.cons W .nil)) ?_,rfl,q⟩
 rw[Mu,Ph];omega
def BW:V->List V->Hp->VK->Prop:=fun x vs H Q=>∃l xs i k y,x= .ref l/\vs=[.int i]/\H l=ar (.lst xs)/\ -(2 ^ 63)<=i/\i<2 ^ 63/\Rw i xs.length=ar k/\xs[k]? =ar y/\Q y (upd H l (.lst (xs.eraseIdx k)))
theorem BX:LS X "list.pop" BW:=by
 intro pins s σ H x vs v us Q I U N h;obtain⟨l,xs,i,k,y,rfl,rfl,Y,S,R,O,P,q⟩:=h;cases U;obtain⟨u,rfl,T⟩:=N.one;obtain⟨t,rfl⟩:=T;obtain⟨z,its,n,r,W,e⟩:=I.lstM Y;obtain⟨w,hw,Z⟩:=r.get P;refine RT F.slot_list_pop ⟨_,e,rfl⟩ F.entry_list_pop (F.args_list_pop_2 _ _)
  (MeetsSeq.list_pop_at l its.toArray n i t k w (fitsIndex_both S R) (by rw[MB, <-W];exact O) (by rw[<-MV];exact hw) (by rw[MB];omega)) ⟨e,?_⟩
 refine⟨y,_,I.lset (its':=its.eraseIdx k) Y e ?_ (r.eraseIdx k) ?_,Z,q⟩
 ·show its.toArray.eraseIdxIfInBounds k=(its.eraseIdx k).toArray;rw[List.eraseIdxIfInBounds_toArray]
 ·have:=sJ xs k;omega
end
section
variable {prog:eM}{w:fg}{A:hI}{E:a_->c_->Prop}{s:c_}
end
section
variable {X:Cx}
end
end L2
namespace Att
open PySem PySem.W PySem.Calls PyProof.Rows
theorem oW:∀(ns:List Int) (vs:List a_),WellAll P h vs (ns.map WData.int)->n7 vs ns:=by
 intro ns
 induction ns with
 |nil=>
  intro vs w;rw[NR]at w;cases w;exact .nil
 | cons n ns ih=>
  intro vs w;rw[MU]at w;cases w with
  |cons a b=>
   cases a;exact .cons _ _ (ih _ b)
theorem Au{l:SK}(Q:l.most=ar n)
  (Z:l.row.toRowW.claim.pre args=b_) (W:WellAll P h vals args):
  ∃a vs ns,vals=[ey a]/\args=[WData.list (ns.map WData.int)]/\h.get? a=ar {cls:=.type "list",data:=.seq vs.toArray}/\n7 vs ns/\ns.length<=n:=by
 have i6:WShape.hasAll [] args [.list .int]=true:=(pre_splitW Z).1;have U:l.pre.holds [] {args:=args}=true:=(pre_splitW Z).2;obtain⟨d,r,rfl,S,R⟩:=hasAllW_cons i6;obtain rfl:=hasAllW_nil R;obtain⟨xs,rfl,O⟩:=hasW_list S;obtain⟨ns,rfl⟩:=items_int O;have hlen:ns.length<=n:=by
  unfold OpenLaw.pre at U;have X:(WTm.not (.lt (.lit (.int (n:Int))) (.len (.arg 0)))).holds [] {args:=[.list (ns.map .int)]}=true:=by
   have X:=(holds_andW U).1;rw[Q]at X;exact X
  have Y:=condW_of X (w_not (w_lt w_lit (w_len_list (w_arg rfl))));rw[Mq]at Y;refine Qz fun q=>?_;have T:(n:Int)<((ns.length:Nat):Int):=by omega
  first
   |(rw[MF T]at Y;exact absurd Y (by decide))
   |(simp at Y;omega)
 cases W with
 |cons w1 w2=>
  cases w2;cases w1 with
  |list ho hall=>exact⟨_,_,ns,rfl,rfl,ho,oW ns _ hall,hlen⟩
theorem Av(l:SK)(args:List WData):l.row.toRowW.claim.post args (.bool b_) args=true:=
 postW_of (r:=l.row.toRowW) (X:=(b_==b_))
  (show WShape.has [] (.bool b_) .bool=b_ by first|rfl|decide|simp[WShape.has,WShape.arms,WShape.armsAll])
  (show(WTm.eq .res (.lit (.bool b_))).value [] {args:=args,res:=ar (.bool b_),after:=args}=ar (.bool (b_==b_))from w_eq_bool (w_res rfl) w_lit) rfl
theorem attach_call{l:SK}{YP:fg->gd->Prop}{d:Sy}
  (C:l.most=ar n) (P:d.params.defaults=[])
  (W:∀(w:fg) (s₀ Z:c_) (S Q:Str->Option a_) (U:dt) (o:Obj) (pm cd doc:a_) (a:dt) (vs:List a_) (ns:List Int),
   Ground q loose [] XP w s₀ S Q Z.heap->YP w Z.heap->
   Z.heap.get? U=ar o->o.data= .func (docDef d.name d.params d.body d.scope pm cd doc)->Z.heap.CodeRec cd d.name->S d.name=ar (.ref U)->
   Z.heap.get? a=ar {cls:=.type "list",data:=.seq vs.toArray}->n7 vs ns->ns.length<=n->Z.gens= #[]->
   B_ (f_ l.prog w) w_ (.call (.ref U) ⟨[.ref a],[]⟩) (fun r s'=>r= .ok (.ret (.bool b_))/\OldK Z.heap s'.heap/\s'.os=Z.os/\y2 s'.gens) Z):
  WalkO q loose XP YP l.row.toRowW d [] (fun f vs=>PySem.call f vs):=by
 intro w s₀ Z S Q G Y U o pm cd doc z kV E hd R L N F args vals as T K J O B;obtain rfl:z= .none:=Dflts.none L P;obtain rfl:kV= .none:=Dflts.noKw L;obtain⟨a,vs,ns,rfl,rfl,X,hints,hlen⟩:=Au C T O;refine enter_call (Od (W w s₀ Z S Q U o pm cd doc a vs ns G Y E (fd_plain hd) R N X hints hlen F) fun r s' y=>?_);obtain⟨rfl,I,A,H⟩:=y;exact⟨.inl ⟨.bool b_,.bool b_,[],rfl,fun _=>rfl,.bool b_,Av l _,fun _=>⟨List.Pairwise.nil,fun _ hm=>(nomatch hm)⟩⟩,I,A,H⟩
section
variable {prog:eM}{w:fg}{A:hI}{E:a_->c_->Prop}{s:c_}{K:SV}
def ledger(h:gd)(L d:dt):List (dt×Obj):=(eb h.objs.size).filterMap fun a=>if a=L\/a=d then none else (h.get? a).map fun o=>(a,o)
end
end Att
namespace L2
open PySem PySem.Spec PyProof.Rows
theorem jA:∀{vs:List a_} {ns:List Int},n7 vs ns->bw (ns.map V.int) vs
 |_,_,.nil=>.nil
 |_,_,.cons n t h=>.cons ⟨t,rfl⟩ (jA h)
def Hf(H:Hp):Prop:=∀b,H b=none\/∃o xs,H b=ar (.frz o (.lst xs))
theorem BY{K:d_}{G:Str->Option a_}{t:Bv}{sp:Sp}{Z:c_}{vs:List a_}
  (p:K.In Z.heap) (L:Z.heap.Ns g_ mg) (X:Z.heap.Ns wd G) (y:∀x:Str,x≠"__name__"->G x=k8 x) (O:Z.heap.NoLimit) (hg:Z.gens= #[])
  (I:Z.heap.get? a=ar {cls:=.type "list",data:=.seq vs.toArray}) (hi:n7 vs ns) (j:ns.length<=sizeLine) (hr:Room k w_)
  (F:∀base:gd,K.In base->base.Ns g_ mg->FnOk P w K mg base t k fa fd [x] sp) (T:∀(s:c_) (u:a_),F_ s fd ⟨[u],[]⟩ [(x,u)])
  (E:∀H:Hp,Hf H->kY K H a (ns.map V.int)->sp [.ref a] H (fun v _=>v= .bl b_) fun _ _ _=>False)
  (B:∀H e s',t [] H Z (fun _ _ _=>False) e s'->False):
  B_ (f_ P w) w_ (.call (.ref fa) ⟨[.ref a],[]⟩) (fun r s'=>r= .ok (.ret (.bool b_))/\OldK Z.heap s'.heap/\s'.os=Z.os/\y2 s'.gens) Z:=by
 have g:=jA hi;have R:=hi.length;have core:∀H:Hp,Hf H->kY K H a (ns.map V.int)->gG P w H Z.heap->(∀b,H b≠none->b=a)->(H a≠none->K.lookup a=none)->
   B_ (f_ P w) w_ (.call (.ref fa) ⟨[.ref a],[]⟩) (fun r s'=>r= .ok (.ret (.bool b_))/\OldK Z.heap s'.heap/\s'.os=Z.os/\y2 s'.gens) Z:=by
  intro H i c Q l hK;have Y:∀{b:dt} {o:Obj},Z.heap.get? b=ar o->H b=none->(lF Z.heap H).get? b=ar o:=fun e n=>mJ e n;have C:∀{b:dt} {o:Obj} {es:Array DictEntry} {ep:Nat},Z.heap.get? b=ar o->o.data= .dict es ep->H b=none:=fun{b o es ep} e d=>by
   cases q:H b with
   |none=>rfl
   |some u=>
    have A:b=a:=l b (by rw[q];simp)
    subst A;rw[I]at e;cases e;have d':Data.seq vs.toArray _=Data.dict es ep:=d;cases d'
  have U:∀{b:dt} {m:Str->Option a_},Z.heap.Ns b m->(lF Z.heap H).Ns b m:=fun{b m} ⟨o,es,ep,e,d,r⟩=>⟨o,es,ep,Y e (C e d),d,r⟩;have J:K.In (lF Z.heap H):=fun b o e=>Y (p b o e) (by
   cases q:H b with
   |none=>rfl
   |some u=>
    have A:b=a:=l b (by rw[q];simp)
    subst A;rw[hK (by rw[q];simp)]at e;cases e)
  have hM:Mod K mg (lF Z.heap H):=⟨J,U L,⟨G,U X,y⟩,let ⟨mc,h1,h2⟩:=O;⟨mc,U h1,h2⟩⟩;have e0:aP P w K mg (lF Z.heap H) w_ [] Z H:=⟨rfl,hM,fun b o e=>tW e,OV (nP _ _),trivial,fun b X=>absurd (show b∈([]:List dt)from X) (by simp),Q,.of_eq hg⟩
  refine Od ((F _ J (U L)).run w_ [] Z H ⟨[.ref a],[]⟩ [.ref a] [.ref a] _ _ hr e0 (T Z (.ref a)) (.cons rfl .nil) (E H i c)) fun r s' h=>?_;cases r with
  |error e=>exact(B H e s' h).elim
  | ok fl=>
   cases fl with
   |next=>exact hJ h
   |brk=>exact hJ h
   |cont=>exact hJ h
   | ret u=>
    obtain⟨v,H',os,bare,un,S,r',q⟩:=h;have f:v= .bl true:=q;subst f;obtain rfl:u=t6 true:=r';refine⟨rfl,OldK.of_keep fun b o e=>?_,os,bare⟩;cases q:H b with
    |none=>exact un.keep b o e q (by intro z;exact absurd (show b∈([]:List dt)from z) (by simp)) (by simp)
    | some u=>
     rcases i b with z|⟨ob,xs,z⟩
     ·rw[q]at z;cases z
     ·have z2:=un.frzs b ob _ z;obtain⟨e1,_⟩:=Q b _ z;obtain⟨e2,_⟩:=S b _ z2;rw[e]at e1;cases e1;exact e2
 cases hk:K.lookup a with
 |some o=>
  have e:=p a o hk;rw[I]at e;cases e;refine core (fun _=>none) (fun _=>.inl rfl) (.inr ⟨_,vs.toArray,_,hk,rfl,rfl,rfl,by rw[MB,R];exact j,by simpa using g⟩) (fun b u z=>by have N:(none:Option HO)=ar u:=z;cases N) (fun b z=>absurd rfl z) fun z=>absurd rfl z
 | none=>
  refine core (fun b=>if b=a then ar (.frz {cls:=.type "list",data:=.seq vs.toArray} (.lst (ns.map V.int)))else none) (fun b=>?_) (.inl (.inr ⟨{cls:=.type "list",data:=.seq vs.toArray},if_pos rfl⟩)) (fun b u z=>?_) (fun b z=>?_) fun _=>hk
  ·by_cases X:b=a
   ·exact .inr ⟨_,_,if_pos X⟩
   ·exact .inl (if_neg X)
  ·by_cases X:b=a
   ·have N:=(if_pos X).symm.trans z;cases N;subst X;exact⟨I,by rw[Mq];exact j,vs,_,g,I⟩
   ·have N:=(if_neg X).symm.trans z;cases N
  ·by_cases X:b=a
   ·exact X
   ·exact absurd (if_neg X) z
end L2
namespace L2
open PySem PySem.Spec PyProof.Rows
abbrev Mn{K:d_}{h:gd}(_:K.In h):W.Frag:=K
theorem Kw{l:R5}{YP:fg->gd->Prop}{d:Sy}{K:O'->d_}{L:fg->Bv}{sp:fg->Sp}
  (t:l.most=ar n) (R:n<=sizeLine) (O:d.params.defaults=[]) (A:Room k w_)
  (r:∀(w:fg) (h:gd),YP w h->(K w.params).In h)
  (F:∀(w:fg) (Z:Str->Option a_) (S:dt) (h:gd),(K w.params).In h->h.Ns g_ Z->Z d.name=ar (.ref S)->
   ∃fd:gc,(∀(s:c_) (u:a_),F_ s fd ⟨[u],[]⟩ [(x,u)])/\
    ∀base:gd,(K w.params).In base->base.Ns g_ Z->FnOk l.prog w (K w.params) Z base (L w) k S fd [x] (sp w))
  (Q:∀(w:fg) (H:Hp) (a:dt) (ns:List Int),ns.length<=n->Hf H->kY (K w.params) H a (ns.map V.int)->sp w [.ref a] H (fun v _=>v= .bl b_) fun _ _ _=>False)
  (P:∀(w:fg) (H:Hp) (s:c_) (e:a_) (s':c_),L w [] H s (fun _ _ _=>False) e s'->False):
  SL q loose XP YP l.row.toRowW d [] (fun f vs=>PySem.call f vs):=by
 refine Att.attach_call t O fun w s₀ U Z p S o pm cd doc a vs ns G Y m hd E N X hints hlen B=>?_;have J:=r w _ Y;obtain⟨fd,C,y⟩:=F w Z S _ J G.T.g N;exact BY J G.T.g G.T.b G.T.builtins G.T.nolimit B X hints (ME hlen R) A y C (fun H z I=>Q w H a ns hlen z I) fun H e s'=>P w H U e s'
end L2
namespace L2
open PySem PySem.Spec PyProof.Rows
def ja(s:ri):Arguments:=match s with
 | .FunctionDef _ a _ _ _ _ _ _ _ _=>a
 |_=>{posonlyargs:=[],args:=[],vararg:=none,kwonlyargs:=[],kw_defaults:=[],kwarg:=none,defaults:=[]}
def dQ(s:ri):List Stmt:=match s with
 | .FunctionDef _ _ b _ _ _ _ _ _ _=>b
 |_=>[]
def av(s:ri):Scope:=match s with
 | .FunctionDef _ _ _ _ _ _ sc _ _ _=>sc
 |_=>{kind:=.function,names:=[],isGenerator:=dV,isCoroutine:=dV}
abbrev Me:Bv:=fun _ _ _ _ _ _=>False
abbrev E0:XK:=fun _ _ _=>False
structure Fun(K:d_)(x qual:Str)(st:ri)(f:dt)(fd:gc):Prop where
 ex:∃(oc:a_) (od:Option dt) (kV doc pm:a_) (an:Option dt) (cdv ct:a_) (osl:Array (Option a_)),
  fd=D_ x qual (ja st) (dQ st) (av st) .none kV doc pm an cdv ct/\K.lookup f=ar ⟨oc,od,.func fd,osl⟩/\Rl K cdv qual=b_
 kp:z5 K (.ref f)=b_
section
variable {P:eM}{w:fg}{K:d_}{mg:Str->Option a_}{base:gd}
theorem Fun.binds{x qual:Str}{Y:ri}{f:dt}{U:gc}{X:List Str}(F:Fun K x qual Y f U)
  (h:∀(kV doc pm:a_) (an:Option dt) (Z ct:a_) (us:List a_),us.length=X.length->RP (D_ x qual (ja Y) (dQ Y) (av Y) .none kV doc pm an Z ct) ⟨us,[]⟩=aC (X.zip us)):Binds K U X []:=by
 obtain⟨R,od,kV,doc,pm,an,Z,ct,S,rfl,Q,T⟩:=F.ex;exact .all (h kV doc pm an Z ct)
theorem Hg{x qual:Str}{Y:ri}{f:dt}{R:a_}{od S:Option dt}{U:Array (Option a_)}{kV X T Z ct:a_}(l:K.lookup f=ar ⟨R,od,.func (D_ x qual (ja Y) (dQ Y) (av Y) .none kV X T S Z ct),U⟩)
  (c:Rl K Z qual=b_) (k:z5 K (.ref f)=b_):Fun K x qual Y f (D_ x qual (ja Y) (dQ Y) (av Y) .none kV X T S Z ct):=⟨⟨R,od,kV,X,T,S,Z,ct,U,rfl,l,c⟩,k⟩
end
section
variable {X:Cx}
theorem pv(i:Nat)(U:X.N[i]? =ar x:=by rfl)(W:Bu X.env.scope x:=by first|exact Rx rfl|exact QL (Rx rfl)|exact QL (QL rfl))(Y:(x==("__debug__":Str))=false:=by decide)
  (Z:(x==("__classdict__":Str))=false:=by decide):PE X (.Name x pos) (Ja i):=tX U W Y Z
end
end L2
end
namespace S3
open PySem PySem.W PyProof.Rows
def bE{α:Type}(b:Nat->Nat->Bool):Sz α->α
 | .ret a=>a
 | .ask i j k=>bE b (k (b i j))
theorem iE{Z Y:Type}(b:Nat->Nat->Bool)(f:Z->Sz Y):∀t:Sz Z,bE b (t.bind f)=bE b (f (bE b t))
 | .ret _=>rfl
 | .ask i j k=>iE b f (k (b i j))
section
variable (r:Nat->Nat)
abbrev ff:Nat->Nat->Bool:=fun i j=>decide (r i<r j)
def ka(p:Array Nat)(k:Nat):Nat:=r (p.getD k 0)
def BZ(p:Array Nat)(n:Nat):Prop:=∀i j,i<=j->j<n->ka r p i<=ka r p j
def Lp(p:Array Nat)(n:Nat):Prop:=∀i j,i<=j->j<n->ka r p j<=ka r p i
variable {r}
theorem mO{p q:Array Nat}{i j:Nat}(h:p[i]? =q[j]?):p.getD i 0=q.getD j 0:=by
 rw[M7,M7,h]
theorem ue{p:Array Nat}{i j:Nat}(Z:j<=p.size)(k:Nat):ka r (u3 p i j) k=if i<=k/\k<j then ka r p (i+j - 1 - k)else ka r p k:=by
 have h:=getElem?_mirror_all (i:=i) Z k;unfold ka u3;by_cases c:i<=k/\k<j
 ·rw[if_pos c]at h⊢;rw[mO h]
 ·rw[if_neg c]at h⊢;rw[mO h]
theorem sM{p:Array Nat}{Z d:Nat}(hs:Z<p.size)(Y:d<=Z)(k:Nat):ka r (SC p Z d) k=if k=Z - d then ka r p Z else if Z - d<k/\k<=Z then ka r p (k - 1)else ka r p k:=by
 have h:=getElem?_bubble hs d Y k;unfold ka;by_cases c:k=Z - d
 ·rw[if_pos c]at h⊢;rw[mO h]
 ·rw[if_neg c]at h⊢;by_cases c2:Z - d<k/\k<=Z
  ·rw[if_pos c2]at h⊢;rw[mO h]
  ·rw[if_neg c2]at h⊢;rw[mO h]
theorem pY:(u3 p i j).size=p.size:=mirror_size _ _ _ _
theorem f7:(u3 p i j).Perm p:=mirror_perm _ _ _ _
theorem uf:∀(f n:Nat),1<=n->BZ r p n->n<=bE (ff r) (t5 p f n)/\bE (ff r) (t5 p f n)<=n+f/\BZ r p (bE (ff r) (t5 p f n))
 |0,n,h1,h=>⟨Ms _,Ms _,h⟩
 | f +1,n,h1,h=>by
  show n<=bE (ff r) (if (ff r) (p.getD n 0) (p.getD (n - 1) 0)=b_ then Rn n else t5 p f (n+1))/\bE (ff r) (if (ff r) (p.getD n 0) (p.getD (n - 1) 0)=b_ then Rn n else t5 p f (n+1))<=n+(f+1)/\BZ r p (bE (ff r) (if (ff r) (p.getD n 0) (p.getD (n - 1) 0)=b_ then Rn n else t5 p f (n+1)));by_cases c:(ff r) (p.getD n 0) (p.getD (n - 1) 0)=b_
  ·rw[if_pos c];exact⟨Ms _,by show n<=n+(f+1);omega,h⟩
  ·rw[if_neg c];have Y:ka r p (n - 1)<=ka r p n:=by
    exact Qz fun z=>c (MF z)
   obtain⟨a1,a2,X⟩:=uf f (n+1) (by omega) (fun i j Z W=>by
    by_cases e:j=n
    ·subst e;by_cases e2:i=j
     ·subst e2;exact Ms _
     ·exact ME (h i (j - 1) (by omega) (by omega)) Y
    ·exact h i j Z (by omega))
   exact⟨by omega,by omega,X⟩
structure Down(r:Nat->Nat)(p:Array Nat)(n q:Nat):Prop where
 dsc:Lp r p n
 q1:q+1<=n
 eqs:∀k,n - (q+1)<=k->k<n->ka r p k=ka r p (n - 1)
theorem pZ{p:Array Nat}(Z:n<=p.size)(h:Down r p n q):∀k,ka r (u3 p (n - (q+1)) n) k=ka r p k:=fun k=>by
 rw[ue Z];split
 ·next c=>rw[h.eqs k c.1 c.2,h.eqs _ (by omega) (by omega)]
 ·rfl
theorem mP:∀(f:Nat) (p:Array Nat) (n q:Nat),n+f<=p.size->Down r p n q->
  Down r (bE (ff r) (u0 f p n q)).1 (bE (ff r) (u0 f p n q)).2.1 (bE (ff r) (u0 f p n q)).2.2/\(bE (ff r) (u0 f p n q)).1.Perm p/\n<=(bE (ff r) (u0 f p n q)).2.1/\(bE (ff r) (u0 f p n q)).2.1<=n+f
 |0,p,n,q,hs,h=>⟨h,O0 _,Ms _,Ms _⟩
 | f +1,p,n,q,hs,h=>by
  have e:bE (ff r) (u0 (f+1) p n q)=if ka r p n<ka r p (n - 1)then (if q>0 then bE (ff r) (u0 f (u3 p (n - (q+1)) n) (n+1) 0)else bE (ff r) (u0 f p (n+1) 0))
    else if ka r p (n - 1)<ka r p n then (p,n,q)else bE (ff r) (u0 f p (n+1) (q+1)):=by
   show bE (ff r) (if (ff r) (p.getD n 0) (p.getD (n - 1) 0)=b_ then _ else _)=_;unfold ka;by_cases c:r (p.getD n 0)<r (p.getD (n - 1) 0)
   ·rw[if_pos (by simpa using c),if_pos c]
    split<;>rfl
   ·rw[if_neg (by simpa using c),if_neg c]
    show bE (ff r) (if (ff r) (p.getD (n - 1) 0) (p.getD n 0)=b_ then _ else _)=_;by_cases c2:r (p.getD (n - 1) 0)<r (p.getD n 0)
    ·rw[if_pos (by simpa using c2),if_pos c2];rfl
    ·rw[if_neg (by simpa using c2),if_neg c2]
  have W:=h.q1;have ext:∀{p':Array Nat} {q':Nat},(∀k,ka r p' k=ka r p k)->ka r p n<=ka r p (n - 1)->(q'=0\/(q'=q+1/\ka r p n=ka r p (n - 1)))->Down r p' (n+1) q':=fun{p' q'} hk hle hq=>by
   refine⟨fun i j Z U=>?_,by omega,fun k T S=>?_⟩
   ·rw[hk,hk];by_cases ej:j=n
    ·subst ej;by_cases e2:i=j
     ·subst e2;exact Ms _
     ·exact ME hle (h.dsc i (j - 1) (by omega) (by omega))
    ·exact h.dsc i j Z (by omega)
   ·rw[hk,hk,show n+1 - 1=n by omega]
    rcases hq with rfl|⟨rfl,he⟩
    ·have:k=n:=by omega
     subst this;rfl
    ·by_cases ek:k=n
     ·subst ek;rfl
     ·rw[he];exact h.eqs k (by omega) (by omega)
  rw[e];by_cases c:ka r p n<ka r p (n - 1)
  ·rw[if_pos c];by_cases hq:q>0
   ·rw[if_pos hq];obtain⟨a1,a2,X,Y⟩:=mP f (u3 p (n - (q+1)) n) (n+1) 0 (by rw[pY];omega) (ext (pZ (by omega) h) (by omega) (.inl rfl))
    exact⟨a1,a2.trans f7,by omega,by omega⟩
   ·rw[if_neg hq];obtain⟨a1,a2,X,Y⟩:=mP f p (n+1) 0 (by omega) (ext (fun _=>rfl) (by omega) (.inl rfl))
    exact⟨a1,a2,by omega,by omega⟩
  ·rw[if_neg c];by_cases c2:ka r p (n - 1)<ka r p n
   ·rw[if_pos c2];exact⟨h,O0 _,Ms _,by show n<=n+(f+1);omega⟩
   ·rw[if_neg c2];obtain⟨a1,a2,X,Y⟩:=mP f p (n+1) (q+1) (by omega) (ext (fun _=>rfl) (by omega) (.inr ⟨rfl,by omega⟩))
    exact⟨a1,a2,by omega,by omega⟩
structure Got(r:Nat->Nat)(nrem:Nat)(p:Array Nat)(g:Nat×Array Nat):Prop where
 asc:BZ r g.2 g.1
 le:g.1<=nrem
 pos:1<=g.1
 perm:g.2.Perm p
theorem sN{p:Array Nat}(W:1<=n)(T:n<=nrem)(hs:nrem<=p.size)(h:Lp r p n):Got r nrem p (bE (ff r) (R6 n nrem p)):=by
 unfold R6;rw[iE];have Z:BZ r (u3 p 0 n) n:=fun i j X U=>by
  rw[ue (by omega),ue (by omega),if_pos ⟨by omega,by omega⟩,if_pos ⟨by omega,by omega⟩]
  exact h _ _ (by omega) (by omega)
 obtain⟨a1,a2,Y⟩:=uf (p:=u3 p 0 n) (nrem - n) n W Z;exact⟨Y,by show bE (ff r) (t5 (u3 p 0 n) (nrem - n) n)<=nrem;omega,by show 1<=bE (ff r) (t5 (u3 p 0 n) (nrem - n) n);omega,f7⟩
theorem mQ{p:Array Nat}(R:n<nrem)(hs:nrem<=p.size)(h:Down r p (n+1) 0):Got r nrem p (bE (ff r) (Ro n nrem p)):=by
 unfold Ro;rw[iE];obtain⟨a1,a2,T,U⟩:=mP (nrem - (n+1)) p (n+1) 0 (by omega) h
 generalize bE (ff r) (u0 (nrem - (n+1)) p (n+1) 0)=d at a1 a2 T U;obtain⟨X,n',Y⟩:=d;dsimp only at a1 a2 T U;have Z:X.size=p.size:=a2.size_eq;by_cases hq:Y>0
 ·show Got r nrem p (bE (ff r) (if Y>0 then _ else _));rw[if_pos hq];have hd:Lp r (u3 X (n' - (Y+1)) n') n':=fun i j W S=>by
   rw[pZ (show n'<=X.size by omega) a1,pZ (show n'<=X.size by omega) a1]
   exact a1.dsc i j W S
  have:=sN (n:=n') (nrem:=nrem) (by omega) (by omega) (by rw[pY,Z];exact hs) hd
  exact⟨this.asc,this.le,this.pos,(this.perm.trans f7).trans a2⟩
 ·show Got r nrem p (bE (ff r) (if Y>0 then _ else _));rw[if_neg hq];have:=sN (n:=n') (nrem:=nrem) (by omega) (by omega) (by rw[Z];exact hs) a1.dsc
  exact⟨this.asc,this.le,this.pos,this.perm.trans a2⟩
theorem Aw{p:Array Nat}(N:2<=nrem)(hs:nrem<=p.size):Got r nrem p (bE (ff r) (Ry nrem p)):=by
 unfold Ry;rw[iE];obtain⟨a1,a2,Y⟩:=uf (r:=r) (p:=p) (nrem - 1) 1 (Ms _) (fun i j X R=>by
  have:i=j:=by omega
  subst this;exact Ms _)
 have stop:∀(f n:Nat),1<=n->bE (ff r) (t5 p f n)<n+f->ka r p (bE (ff r) (t5 p f n))<ka r p (bE (ff r) (t5 p f n) - 1):=by
  intro f
  induction f with
  |zero=>intro n _ h;exact absurd h (NW _)
  | succ f ih=>
   intro n W h;have e:bE (ff r) (t5 p (f+1) n)=if ka r p n<ka r p (n - 1)then n else bE (ff r) (t5 p f (n+1)):=by
    show bE (ff r) (if (ff r) (p.getD n 0) (p.getD (n - 1) 0)=b_ then _ else _)=_;unfold ka;by_cases c:r (p.getD n 0)<r (p.getD (n - 1) 0)
    ·rw[if_pos (MF c),if_pos c];rfl
    ·rw[if_neg (fun z=>c (Nm z)),if_neg c]
   rw[e]at h⊢;by_cases c:ka r p n<ka r p (n - 1)
   ·rw[if_pos c];exact c
   ·rw[if_neg c]at h⊢;exact ih (n+1) (by omega) (by omega)
 have Z:=stop (nrem - 1) 1 (Ms _);generalize bE (ff r) (t5 p (nrem - 1) 1)=n at a1 a2 Y Z;by_cases hn:n=nrem
 ·show Got r nrem p (bE (ff r) (if (n==nrem)=b_ then _ else _));rw[if_pos (by simp[hn])]
  exact⟨Y,by show n<=nrem;omega,a1,O0 _⟩
 ·show Got r nrem p (bE (ff r) (if (n==nrem)=b_ then _ else _));rw[if_neg (by simp[hn])]
  have P:=Z (by omega)
  by_cases W:n>1
  ·rw [if_pos W];show Got r nrem p (bE (ff r) (if (ff r) (p.getD 0 0) (p.getD (n - 1) 0)=b_ then _ else _));by_cases c:r (p.getD 0 0)<r (p.getD (n - 1) 0)
   ·rw[if_pos (MF c)];exact⟨Y,by show n<=nrem;omega,a1,O0 _⟩
   ·rw [if_neg (fun z=>c (Nm z))];have all:∀k,k<n->ka r p k=ka r p (n - 1):=fun k Q=>by
     have T:=Y 0 k (by omega) Q
     have S:=Y k (n - 1) (by omega) (by omega)
     have O:ka r p (n - 1)<=ka r p 0:=Qz c;omega
    have U:∀k,ka r (u3 p 0 n) k=ka r p k:=fun k=>by
     rw[ue (by omega)]
     split
     ·next h=>rw[all k h.2,all _ (by omega)]
     ·rfl
    have:=mQ (r:=r) (n:=n) (nrem:=nrem) (p:=u3 p 0 n) (by omega) (by rw[pY];exact hs) ⟨fun i j X R=>by
      rw[U,U];by_cases ej:j=n
      ·subst ej;by_cases ei:i=j
       ·subst ei;exact Ms _
       ·rw[all i (by omega)];omega
      ·rw[all i (by omega),all j (by omega)];exact Ms _,by omega,fun k T S=>by rw[show k=n+1 - 1 by omega]⟩
    exact⟨this.asc,this.le,this.pos,this.perm.trans f7⟩
  ·rw [if_neg W];have e1:n=1:=by omega
   subst e1;exact mQ (by omega) hs ⟨fun i j X R=>by
     by_cases ej:j=1
     ·subst ej;by_cases ei:i=1
      ·subst ei;exact Ms _
      ·rw[show i=1 - 1 by omega];omega
     ·rw[show i=j by omega];exact Ms _,by omega,fun k T S=>by rw[show k=1+1 - 1 by omega]⟩
theorem nR(Z:BZ r p k):∀(f l m:Nat),m - l<=f->l<=m->m<=k->(∀i,i<l->ka r p i<=ka r p k)->(∀i,m<=i->i<k->ka r p k<=ka r p i)->
  bE (ff r) (td p k f l m)<=k/\(∀i,i<bE (ff r) (td p k f l m)->ka r p i<=ka r p k)/\∀i,bE (ff r) (td p k f l m)<=i->i<k->ka r p k<=ka r p i
 |0,l,m,hf,hl,hm,h1,h2=>by
  have:l=m:=by omega
  subst this;exact⟨by show l<=k;omega,h1,h2⟩
 | f+1,l,m,hf,hl,hm,h1,h2=>by
  by_cases c:l ≥ m
  ·have e:bE (ff r) (td p k (f+1) l m)=l:=by
    show bE (ff r) (if l ≥ m then _ else _)=l;rw[if_pos c];rfl
   rw[e];have:l=m:=by omega
   subst this;exact⟨by omega,h1,h2⟩
  ·have e:bE (ff r) (td p k (f+1) l m)=if ka r p k<ka r p ((l+m) / 2)then bE (ff r) (td p k f l ((l+m) / 2))else bE (ff r) (td p k f ((l+m) / 2+1) m):=by
    show bE (ff r) (if l ≥ m then _ else _)=_;rw[if_neg c];show bE (ff r) (if (ff r) (p.getD k 0) (p.getD ((l+m) / 2) 0)=b_ then _ else _)=_;unfold ka;by_cases d:r (p.getD k 0)<r (p.getD ((l+m) / 2) 0)
    ·rw[if_pos (MF d),if_pos d]
    ·rw[if_neg (fun z=>d (Nm z)),if_neg d]
   rw[e];by_cases d:ka r p k<ka r p ((l+m) / 2)
   ·rw[if_pos d];exact nR Z f l ((l+m) / 2) (by omega) (by omega) (by omega) h1 fun i hi Y=>ME (N5 d) (Z _ i hi Y)
   ·rw[if_neg d];exact nR Z f ((l+m) / 2+1) m (by omega) (by omega) hm (fun i hi=>ME (Z i ((l+m) / 2) (by omega) (by omega)) (by omega)) h2
theorem yJ:∀(f:Nat) (p:Array Nat) (k:Nat),k+f<=p.size->BZ r p k->BZ r (bE (ff r) (Q4 f p k)) (k+f)/\(bE (ff r) (Q4 f p k)).Perm p
 |0,p,k,hs,h=>⟨h,O0 _⟩
 | f +1,p,k,hs,h=>by
  have e:bE (ff r) (Q4 (f+1) p k)=bE (ff r) (Q4 f (SC p k (k - bE (ff r) (td p k k 0 k))) (k+1)):=by
   show bE (ff r) ((td p k k 0 k).bind _)=_;rw[iE]
  rw[e];obtain⟨R,X,W⟩:=nR (r:=r) h k 0 k (by omega) (by omega) (Ms _) (fun i hi=>absurd hi (QE _)) (fun i hi T=>absurd T (by omega))
  generalize bE (ff r) (td p k k 0 k)=l at R X W;have S:BZ r (SC p k (k - l)) (k+1):=fun i j Z P=>by
   rw[sM (by omega) (by omega),sM (by omega) (by omega)]
   have Y:k - (k - l)=l:=by omega
   rw[Y];by_cases ei:i=l
   ·rw[if_pos ei];by_cases ej:j=l
    ·rw[if_pos ej];exact Ms _
    ·rw[if_neg ej,if_pos ⟨by omega,by omega⟩];exact W (j - 1) (by omega) (by omega)
   ·rw[if_neg ei];by_cases ci:l<i/\i<=k
    ·rw[if_pos ci,if_neg (by omega),if_pos ⟨by omega,by omega⟩];exact h _ _ (by omega) (by omega)
    ·rw[if_neg ci];by_cases ej:j=l
     ·rw[if_pos ej];exact X i (by omega)
     ·rw[if_neg ej];by_cases cj:l<j/\j<=k
      ·rw[if_pos cj];exact h _ _ (by omega) (by omega)
      ·rw[if_neg cj];exact h _ _ Z (by omega)
  obtain⟨Q,U⟩:=yJ f (SC p k (k - l)) (k+1) (by rw[bubble_size];omega) S
  refine⟨?_,U.trans (bubble_perm _ _ _)⟩;rw[show k+(f+1)=k+1+f by omega];exact Q
theorem B0(U:2<=n):BZ r (bE (ff r) (vr n)) n/\(bE (ff r) (vr n)).Perm (B' (eb n)):=by
 unfold vr;rw[iE];have G:=Aw (r:=r) (nrem:=n) (p:=B' (eb n)) U (by simp)
 generalize bE (ff r) (Ry n (B' (eb n)))=g at G;obtain⟨m,p⟩:=g;have W:p.size=n:=by rw[G.perm.size_eq];simp
 have hle:m<=n:=G.le;have Z:1<=m:=G.pos;show BZ r (bE (ff r) (if m<n then Q4 (n - max m 1) p (max m 1)else Rn p)) n/\Array.Perm (bE (ff r) (if m<n then Q4 (n - max m 1) p (max m 1)else Rn p)) (B' (eb n));by_cases c:m<n
 ·rw[if_pos c];have em:max m 1=m:=by omega
  rw[em];obtain⟨Y,X⟩:=yJ (r:=r) (n - m) p m (by omega) G.asc
  refine⟨?_,X.trans G.perm⟩;rw[show m+(n - m)=n by omega]at Y;exact Y
 ·rw[if_neg c];have em:m=n:=by omega
  subst em;exact⟨G.asc,G.perm⟩
end
def xm(n:Nat){α:Type}(R:α->Prop):Sz α->Prop
 | .ret a=>R a
 | .ask i j k=>i<n/\j<n/\∀b,xm n R (k b)
theorem jB{n:Nat}{Z X:Type}{R:Z->Prop}{Y:X->Prop}{f:Z->Sz X}:∀{t:Sz Z},xm n R t->(∀a,R a->xm n Y (f a))->xm n Y (t.bind f)
 | .ret a,h,k=>k a h
 | .ask i j g,h,k=>⟨h.1,h.2.1,fun b=>jB (h.2.2 b) k⟩
theorem B1{n:Nat}{Y:Type}{R:Y->Prop}{Z:Nat->Nat->(Bool->c_->Prop)->c_->Prop}{b:Nat->Nat->Bool}{s:c_}{Q:Y->c_->Prop}(h:∀i j C,i<n->j<n->C (b i j) s->Z i j C s):
  ∀{t:Sz Y},xm n R t->Q (bE b t) s->t.kasWp Z Q s
 | .ret a,_,q=>q
 | .ask i j k,o,q=>h i j _ o.1 o.2.1 (B1 h (o.2.2 (b i j)) q)
theorem p9{n:Nat}{Y:Type}{R:Y->Prop}{b Z:Nat->Nat->Bool}(h:∀i j,i<n->j<n->b i j=Z i j):∀{t:Sz Y},xm n R t->bE b t=bE Z t
 | .ret a,_=>rfl
 | .ask i j k,o=>by
  show bE b (k (b i j))=bE Z (k (Z i j));rw[h i j o.1 o.2.1];exact p9 h (o.2.2 _)
def In(n:Nat)(p:Array Nat):Prop:=0<n/\∀x∈p.toList,x<n
theorem In.get(h:In n p)(k:Nat):p.getD k 0<n:=by
 rw[M7];cases e:p[k]? with
 |none=>exact h.1
 |some x=>exact h.2 x (by rw[<-MV]at e;exact M1 e)
theorem In.perm{q:Array Nat}(h:In n p)(e:q.Perm p):In n q:=⟨h.1,fun x Z=>h.2 x ((Array.Perm.toList e).mem_iff.mp Z)⟩
theorem ug(h:In n p):∀(f m:Nat),xm n (fun _=>True) (t5 p f m)
 |0,m=>trivial
 | f+1,m=>⟨h.get _,h.get _,fun b=>by
   cases b with
   |true=>exact trivial
   |false=>exact ug h f (m+1)⟩
theorem mR:∀(f:Nat) (p:Array Nat) (m q:Nat),In n p->xm n (fun r=>In n r.1) (u0 f p m q)
 |0,p,m,q,h=>h
 | f+1,p,m,q,h=>⟨h.get _,h.get _,fun b=>by
   cases b with
   |true=>
    show xm n _ (if q>0 then _ else _);split
    ·exact mR f _ _ _ (h.perm f7)
    ·exact mR f _ _ _ h
   |false=>
    refine⟨h.get _,h.get _,fun b=>?_⟩;cases b with
    |true=>exact h
    |false=>exact mR f _ _ _ h⟩
theorem sO(h:In n p):xm n (fun r:Nat×Array Nat=>In n r.2) (R6 m nrem p):=
 jB (ug (h.perm f7) _ _) fun _ _=>h.perm f7
theorem mS(h:In n p):xm n (fun r:Nat×Array Nat=>In n r.2) (Ro m nrem p):=
 jB (mR _ _ _ _ h) fun a Z=>by
  split
  ·exact sO (Z.perm f7)
  ·exact sO Z
theorem Ax(h:In n p):xm n (fun r:Nat×Array Nat=>In n r.2) (Ry nrem p):=
 jB (ug h _ _) fun a _=>by
  split
  ·exact h
  ·split
   ·refine⟨h.get _,h.get _,fun b=>?_⟩;cases b with
    |true=>exact h
    |false=>exact mS (h.perm f7)
   ·exact mS h
theorem nS(h:In n p):∀(f l m:Nat),xm n (fun _=>True) (td p k f l m)
 |0,l,m=>trivial
 | f+1,l,m=>by
  show xm n _ (if l ≥ m then _ else _);split
  ·exact trivial
  ·refine⟨h.get _,h.get _,fun b=>?_⟩;cases b with
   |true=>exact nS h f _ _
   |false=>exact nS h f _ _
theorem yK:∀(f:Nat) (p:Array Nat) (k:Nat),In n p->xm n (In n) (Q4 f p k)
 |0,p,k,h=>h
 |f+1,p,k,h=>jB (nS h _ _ _) fun l _=>yK f _ _ (h.perm (bubble_perm _ _ _))
theorem vI(X:0<n):xm n (In n) (vr n):=
 jB (Ax ⟨X,fun x Y=>by simpa using Y⟩) fun a Z=>by
  split
  ·exact yK _ _ _ Z
  ·exact Z
theorem vJ{Y:Type}{p q:Y->Bool}:∀{l:List Y} {x:Y},(∀y∈l,p y=b_->q y=b_)->x∈l->p x=dV->q x=b_->l.countP p<l.countP q
 | y::l,x,h,hx,hp,hq=>by
  have W:l.countP p<=l.countP q:=List.countP_mono_left fun z Z=>h z (My _ Z);rw[List.countP_cons,List.countP_cons];rcases MK.mp hx with e|hx'
  ·subst e;rw[hp,hq];simp;omega
  ·have U:=vJ (fun z Z=>h z (My _ Z)) hx' hp hq;have X:=h y MH;cases e1:p y with
   |true=>rw[X e1];simp;omega
   |false=>simp;split<;>omega
theorem Eu{b:Nat->Nat->Bool}(P:2<=n)(X:∀i,i<n->b i i=dV)(O:∀i j k,i<n->j<n->k<n->b i j=b_->b j k=b_->b i k=b_)(T:∀i j k,i<n->j<n->k<n->b i k=b_->b i j=b_\/b j k=b_):
  (bE b (vr n)).Perm (B' (eb n))/\∀i j,i<=j->j<n->b ((bE b (vr n)).getD j 0) ((bE b (vr n)).getD i 0)=false:=by
 let r:Nat->Nat:=fun i=>(eb n).countP fun j=>b j i;have S:∀i j,i<n->j<n->b i j=decide (r i<r j):=fun i j hi Y=>by
  cases e:b i j with
  |true=>
   refine(MF ?_).symm;exact vJ (x:=i) (fun y U h=>O y i j (MC.mp U) hi Y h e) (MC.mpr hi) (X i hi) e
  |false=>
   refine(MP (QT.mpr ?_)).symm;refine List.countP_mono_left fun y U h=>?_;rcases T y i j (MC.mp U) hi Y h with z|z
   ·exact z
   ·rw[e]at z;cases z
 have Q:bE b (vr n)=bE (ff r) (vr n):=p9 S (vI (by omega))
 obtain⟨a1,a2⟩:=B0 (r:=r) P;rw[Q];refine⟨a2,fun i j W Y=>?_⟩;have Z:In n (bE (ff r) (vr n)):=In.perm ⟨by omega,fun x R=>by simpa using R⟩ a2
 rw[S _ _ (Z.get j) (Z.get i)];exact MP (QT.mpr (a1 i j W Y))
end S3
namespace S3
open PySem PySem.Spec PySem.W PyProof.Rows L2
section
variable {prog:eM}{w:fg}{A:hI}{E:a_->c_->Prop}{s:c_}{Q:Bool->c_->Prop}
theorem vK:∀{us ws:List a_} {ns ms:List Int} (i:Nat),(b=b_\/0<i\/True)->n7 us ns->n7 ws ms->Q (HT.lexLt ns ms) s->
  KatLex prog w A b (decide (us.length<ws.length)) Q (us.zip ws) i s\/us.length≠ws.length
 |[],[],ns,ms,i,_,h1,h2,q=>by
  cases h1;cases h2;exact .inl q
 |[],_::_,_,_,_,_,_,_,_=>.inr (by simp)
 |_::_,[],_,_,_,_,_,_,_=>.inr (by simp)
 | u ::us,v::ws,ns,ms,i,hb,h1,h2,q=>by
  cases h1 with
  |cons n t h1=>
  cases h2 with
  | cons k t' h2=>
   rw[HT.lexLt_cons]at q;by_cases e:n=k
   ·rw[if_pos e]at q;rcases vK (b:=b) (i+1) (.inr (.inr trivial)) h1 h2 q with z|z
    ·refine .inl (kat_cons (Qu ?_));have:(n==k)=true:=by simp[e]
     rw[this];refine kat_yes ?_;show KatLex prog w A b (decide (us.length+1<ws.length+1)) Q (us.zip ws) (i+1) s;rw[show decide (us.length+1<ws.length+1)=decide (us.length<ws.length) by simp]
     exact z
    ·exact .inr (by simpa using z)
   ·rw[if_neg e]at q;refine .inl (kat_cons (Qu ?_));have:(n==k)=false:=by simp[e]
    rw[this];refine kat_no ?_;cases hbi:(b && i==0)with
    |true=>exact oneLt_int q
    |false=>exact kat_one _ _ (lt_int q)
end
structure Tups(h:gd)(vs:List a_)(nss:List (List Int))(c:Nat):Prop where
 len:vs.length=nss.length
 get:∀(i:Nat),i<vs.length->∃a o us n,vs.getD i hO= .ref a/\h.get? a=ar o/\o.cls= .type "tuple"/\o.data= .seq us n/\n7 us.toList (nss.getD i [])/\us.size=c+1
theorem Tups.keep{h':gd}(t:Tups h vs nss c)(k:∀i a o,i<vs.length->vs.getD i hO= .ref a->h.get? a=ar o->h'.get? a=ar o):Tups h' vs nss c:=
 ⟨t.len,fun i hi=>let ⟨a,o,us,n,e1,e2,r⟩:=t.get i hi;⟨a,o,us,n,e1,k i a o hi e1 e2,r⟩⟩
theorem Tups.ask{s:c_}(t:Tups s.heap vs nss c){C:Bool->c_->Prop}(hi:i<vs.length)(S:j<vs.length)
  (q:C (HT.lexLt (nss.getD i []) (nss.getD j [])) s):kas_ask prog w A (tuples' b) vs i j C s:=by
 obtain⟨a,o,us,n,e1,e2,O,U,Y,W⟩:=t.get i hi;obtain⟨N,Q,Z,n',f1,f2,P,f4,X,R⟩:=t.get j S;unfold kas_ask;rw[e1,f1];refine kat_lt e2 U f2 f4 ?_;have T:us.toList.length=Z.toList.length:=by simp[W,R]
 rcases vK (prog:=prog) (w:=w) (A:=A) (b:=b) 0 (.inr (.inr trivial)) Y X q with z|z
 ·simpa using z
 ·exact absurd T z
end S3
namespace S3
open PySem PySem.Spec PyProof.Rows L2
abbrev St:=L2.St
def kz(cells:List (Str×dt)):List (Str×m_)->List (Str×dt)->List (Str×dt)
 |[],cs=>cs
 |(n,k)::r,cs=>kz cells r (if k== .free then (n,(cells.lookup n).getD 0)::cs else cs)
theorem mT(scope:Scope)(env:Env)(h:∀y∈scope.names,y.2= .free->∃c,env.cells.lookup y.1=ar c):RU scope env=aC (kz env.cells scope.names []):=by
 have go:∀(names:List (Str×m_)) (cs:List (Str×dt)),(∀y∈names,y.2= .free->∃c,env.cells.lookup y.1=ar c)->
   (SM names cs (fun(x:Str×m_) (r:List (Str×dt))=>(if (x.2==h_)=b_ then do let a<-cellOf env x.1;aC (A2 ((x.1,a)::r))else aC (A2 r):Sem (ForInStep (List (Str×dt))))):Sem (List (Str×dt)))=aC (kz env.cells names cs):=by
  intro names
  induction names with
  |nil=>intro cs _;rfl
  | cons y r ih=>
   intro cs X;obtain⟨n,k⟩:=y;have U:∀y∈r,y.2= .free->∃c,env.cells.lookup y.1=ar c:=fun y hm=>X y (My _ hm);rw[N_];by_cases hk:(k==h_)=b_
   ·have Y:k= .free:=by simpa using hk
    obtain⟨c,W⟩:=X (n,k) MH Y;have e:cellOf env n=aC c:=by unfold cellOf;rw[W]
    simp only[hk,if_true,e,pure_bind];rw[ih _ U];simp only[kz,hk,if_true,W,Option.getD_some]
   ·have Z:(k==h_)=false:=by simpa using hk
    simp only[Z,fc,if_false,pure_bind];rw[ih _ U];simp only[kz,Z,fc,if_false]
 have:=go scope.names [] h;unfold RU;simp only[bind_pure]at*;exact this
theorem uh{cells:List (Str×dt)}:∀(names:List (Str×m_)) (cs:List (Str×dt)),(∀y∈names,y.2= .free->∃c,cells.lookup y.1=ar c)->(∀p∈cs,cells.lookup p.1=ar p.2)->
  ∀p∈kz cells names cs,cells.lookup p.1=ar p.2
 |[],cs,_,h=>h
 | (n,k)::r,cs,hy,h=>by
  refine uh r _ (fun y hm=>hy y (My _ hm)) fun p Z=>?_;by_cases hk:(k==h_)=b_
  ·rw[if_pos hk]at Z;rcases MK.mp Z with rfl|Z
   ·obtain⟨c,X⟩:=hy (n,k) MH (by simpa using hk)
    show cells.lookup n=ar ((cells.lookup n).getD 0);have Y:cells.lookup n=ar c:=X;rw[Y];rfl
   ·exact h p Z
  ·rw[if_neg hk]at Z;exact h p Z
theorem kA:∀(names:List (Str×m_)) (cs:List (Str×dt)),(x,h_)∈names\/x∈cs.map (·.1)->x∈(kz cells names cs).map (·.1)
 |[],cs,h=>by
  rcases h with h|h
  ·cases h
  ·exact h
 | (n,k)::r,cs,h=>by
  refine kA r _ ?_;rcases h with h|h
  ·rcases MK.mp h with e|h
   ·cases e;refine .inr ?_;simp
   ·exact .inl h
  ·refine .inr ?_;by_cases hk:(k==h_)=b_
   ·rw[if_pos hk];exact My _ h
   ·rw[if_neg hk];exact h
theorem lookup_mem:∀{l:List (Str×dt)},l.lookup x=ar c->(x,c)∈l
 |[],h=>by cases h
 | (n,a)::r,h=>by
  by_cases e:x==n
  ·have Z:x=n:=by simpa using e
   rw[M6,e]at h;have h':ar a=ar c:=h;cases h';subst Z;exact MH
  ·have e2:(x==n)=false:=by simpa using e
   rw[M6,e2]at h;exact My _ (lookup_mem h)
theorem mem_lookup:∀{l:List (Str×dt)},x∈l.map (·.1)->∃c,l.lookup x=ar c
 |[],h=>by cases h
 | (n,a)::r,h=>by
  by_cases e:x==n
  ·exact⟨a,by rw[M6,e]⟩
  ·have e2:(x==n)=false:=by simpa using e
   rw[M6,e2];refine mem_lookup ?_;rcases MK.mp h with z|z
   ·have Z:x=n:=z;subst Z;simp at e
   ·exact z
theorem bL:∀{l:List (Str×m_)},l.lookup x=ar k->(x,k)∈l
 |[],h=>by cases h
 | (n,a)::r,h=>by
  by_cases e:x==n
  ·have Z:x=n:=by simpa using e
   rw[M6,e]at h;have h':ar a=ar k:=h;cases h';subst Z;exact MH
  ·have e2:(x==n)=false:=by simpa using e
   rw[M6,e2]at h;exact My _ (bL h)
theorem jM{env:Env}:∀{names:List (Str×m_)} {k:m_},
  (names.map fun(n,k)=>if (k==h_ && env.scope.kind== .function && env.kindOf n==ar .cell)then (n,p8)else (n,k)).lookup x=ar k->
   names.lookup x=ar k\/(k= .cell/\names.lookup x=ar .free)
 |[],k,h=>by cases h
 | (n,a)::r,k,h=>by
  by_cases e:x==n
  ·rw[MU]at h;by_cases c:(a==h_ && env.scope.kind== .function && env.kindOf n==ar .cell)=b_
   ·have Y:a= .free:=by
     simp only[i_,beq_iff_eq]at c;exact c.1.1
    simp only[c,if_true,l6,e]at h;cases h;refine .inr ⟨rfl,?_⟩;rw[M6,e,Y]
   ·have Z:(a==h_ && env.scope.kind== .function && env.kindOf n==ar .cell)=false:=by simpa using c
    simp only[Z,fc,if_false,l6,e]at h;refine .inl ?_;rw[M6,e];exact h
  ·have e2:(x==n)=false:=by simpa using e
   rw[M6,e2];refine jM (env:=env) (names:=r) ?_;rw[MU]at h;by_cases c:(a==h_ && env.scope.kind== .function && env.kindOf n==ar .cell)=b_
   ·simp only[c,if_true,l6,e2]at h;exact h
   ·have Z:(a==h_ && env.scope.kind== .function && env.kindOf n==ar .cell)=false:=by simpa using c
    simp only[Z,fc,if_false,l6,e2]at h;exact h
theorem mU{env:Env}:∀{names:List (Str×m_)},names.lookup x=ar .free->
  (names.map fun(n,k)=>if (k==h_ && env.scope.kind== .function && env.kindOf n==ar .cell)then (n,p8)else (n,k)).lookup x=ar .cell\/
  (names.map fun(n,k)=>if (k==h_ && env.scope.kind== .function && env.kindOf n==ar .cell)then (n,p8)else (n,k)).lookup x=ar .free
 |[],h=>by cases h
 | (n,a)::r,h=>by
  rw[MU];by_cases e:x==n
  ·rw[M6,e]at h;have X:ar a=ar NameKind.free:=h;cases X;by_cases c:(h_==h_ && env.scope.kind== .function && env.kindOf n==ar .cell)=b_
   ·refine .inl ?_;simp only[c,if_true,l6,e]
   ·have Z:(h_==h_ && env.scope.kind== .function && env.kindOf n==ar .cell)=false:=by simpa using c
    refine .inr ?_;simp only[Z,fc,if_false,l6,e]
  ·have e2:(x==n)=false:=by simpa using e
   rw[M6,e2]at h;have Y:=mU (env:=env) h;by_cases c:(a==h_ && env.scope.kind== .function && env.kindOf n==ar .cell)=b_
   ·simp only[c,if_true,l6,e2];exact Y
   ·have Z:(a==h_ && env.scope.kind== .function && env.kindOf n==ar .cell)=false:=by simpa using c
    simp only[Z,fc,if_false,l6,e2];exact Y
theorem xD:∀{names:List (Str×m_)} {n:Nat} {acc:List (Str×dt)} {p:Str×dt},p∈kS n names acc->p∈acc\/n<=p.2
 |[],n,acc,p,h=>.inl h
 | (x,k)::r,n,acc,p,h=>by
  unfold kS at h;split at h
  ·rcases xD h with h|h
   ·rcases MK.mp h with rfl|h
    ·exact .inr (Ms _)
    ·exact .inl h
   ·exact .inr (Pa h)
  ·exact xD h
theorem xE:∀{names:List (Str×m_)} {n:Nat} {acc:List (Str×dt)},(∀p∈acc,p.2<n)->(∀x y c,(x,c)∈acc->(y,c)∈acc->x=y)->∀x y c,(x,c)∈kS n names acc->(y,c)∈kS n names acc->x=y
 |[],n,acc,_,hi,x,y,c,h1,h2=>hi x y c h1 h2
 | (z,k)::r,n,acc,hl,hi,x,y,c,h1,h2=>by
  unfold kS at h1 h2;by_cases hk:(k==p8)=b_
  ·rw[if_pos hk]at h1 h2;refine xE (fun p Z=>?_) (fun x y c g1 g2=>?_) x y c h1 h2
   ·rcases MK.mp Z with rfl|Z
    ·exact Oj _
    ·exact Nz (hl p Z)
   ·rcases MK.mp g1 with g1|g1<;>rcases MK.mp g2 with g2|g2
    ·rw[<-g2]at g1;exact(Prod.mk.inj g1).1
    ·cases g1;exact absurd (hl _ g2) (NW _)
    ·cases g2;exact absurd (hl _ g1) (NW _)
    ·exact hi x y c g1 g2
  ·rw[if_neg hk]at h1 h2;exact xE hl hi x y c h1 h2
theorem ui:∀{names:List (Str×m_)} {n:Nat} {acc:List (Str×dt)},(∀y∈names,y.2= .cell->y.1≠x)->(kS n names acc).lookup x=acc.lookup x
 |[],_,_,_=>rfl
 | (z,k)::r,n,acc,h=>by
  unfold kS;split
  ·next hk=>
   rw[ui fun y Z=>h y (My _ Z),M6];have:(x==z)=false:=by
    have:=h (z,k) MH (by simpa using hk)
    simpa using kr this
   rw[this]
  ·exact ui fun y Z=>h y (My _ Z)
theorem uj:∀{names:List (Str×m_)} {h:gd} {acc:List (Str×dt)} {p:Str×dt},p∈kS h.objs.size names acc->p∈acc\/(pushCells h names).IsCell p.2 none
 |[],h,acc,p,q=>.inl q
 | (x,k)::r,h,acc,p,q=>by
  unfold kS at q;unfold pushCells;split at q
  ·next hk=>
   rw[if_pos hk];have Z:p∈kS (h.push {cls:=.type "cell",data:=.cell none}).objs.size r ((x,h.objs.size)::acc):=by rw[NB];exact q
   rcases uj Z with Z|Z
   ·rcases MK.mp Z with rfl|Z
    ·exact .inr ⟨_,QF _ _ _ _ (Mz _ rfl),rfl⟩
    ·exact .inl Z
   ·exact .inr Z
  ·next hk=>
   rw[if_neg hk];exact uj q
theorem xF:∀(names:List (Str×m_)) (n:Nat) (acc:List (Str×dt)),((x,p8)∈names\/∃c,acc.lookup x=ar c/\m<=c)->m<=n->(kS n names acc).lookup x=ar a->m<=a
 | [],n,acc,h,hm,e=>by
  rcases h with h|⟨c,h2,h3⟩
  ·cases h
  ·have Y:acc.lookup x=ar a:=e;rw[h2]at Y;cases Y;exact h3
 | (z,k)::r,n,acc,h,hm,e=>by
  unfold kS at e;by_cases hk:(k==p8)=b_
  ·rw[if_pos hk]at e;refine xF r (n+1) _ ?_ (Nat.le_succ_of_le hm) e;by_cases hz:(x==z)=b_
   ·exact .inr ⟨n,by rw[M6,hz],hm⟩
   ·have Z:(x==z)=false:=by simpa using hz
    rcases h with h|⟨c,h2,h3⟩
    ·rcases MK.mp h with h|h
     ·cases h;simp at hz
     ·exact .inl h
    ·exact .inr ⟨c,by rw[M6,Z];exact h2,h3⟩
  ·rw[if_neg hk]at e;refine xF r n acc ?_ hm e;rcases h with h|h
   ·rcases MK.mp h with h|h
    ·cases h;simp at hk
    ·exact .inl h
   ·exact .inr h
theorem Ay{s:c_}{scope:Scope}{env:Env}
  (h:∀h1,h1.Ns s.heap.objs.size (fun _=>none)->(∀b o,s.heap.get? b=ar o->h1.get? b=ar o)->(∀p∈kS (s.heap.objs.size+1) scope.names cl,p∈cl\/h1.IsCell p.2 none)->
   Q {scope,locals:=s.heap.objs.size,globals:=env.globals,cells:=kS (s.heap.objs.size+1) scope.names cl,qual:=env.qual,func:=none,code:=env.code,frame:=env.frame,builtins:=env.builtins} {s with heap:=h1}):
  er M A (newFunctionEnv scope env.globals cl [] env.qual none .none (ar env)) Q E s:=by
 simp only[newFunctionEnv,Option.isSome_some,if_true];refine Mo (wpAny_alloc (Mo (wpAny_layCells _ (fun name kind cells=>by cases hkc:kind==p8<;>simp[hkc]) _ _ _ _ ?_)))
 have e:({s with heap:=s.heap.push {cls:=.type "dict",data:=.dict #[]}}:c_).heap.objs.size=s.heap.objs.size+1:=NB ..;rw[e];refine Mo (m:=SM [] _ _) (Mr (Mr (h _ ((Heap.Ns.new s.heap (.type "dict")).keeps (QF _ _)) (fun b o q=>QF _ _ b o (Mp _ q)) fun p Z=>?_)));exact uj (h:=s.heap.push {cls:=.type "dict",data:=.dict #[]}) (by rw[e];exact Z)
def bX(X:Cx)(scope:Scope)(Nc:List Str)(C:dt)(ex:List dt)(s:c_)(H:Hp):Cx:=
 {X with N:=Nc,s₀:=s,H₀:=H,env:=compEnvC scope (kS (C+1) scope.names (kz X.env.cells scope.names [])) C X.env,outer:=X.stack,stack:=X.stack,ex:=ex,fn:=fun x=>scope.names.lookup x==ar .cell,pn:=[],xe:=fun _ _=>False}
structure CompScope(X:Cx)(scope:Scope)(Nc:List Str)(js:List (Option Nat)):Prop where
 kind:scope.kind= .function
 cel:∀y∈scope.names,y.2= .cell->scope.names.lookup y.1=ar .cell
 loc:∀y∈scope.names,y.2= .local->scope.names.lookup y.1=ar .local
 free:∀y∈scope.names,y.2= .free->X.env.kindOf y.1=ar .cell\/X.env.kindOf y.1=ar .free
 len:js.length=Nc.length
 ix:∀(i:Nat) (x:Str) (j:Nat),Nc[i]? =ar x->js[i]? =ar (ar j)->X.N[j]? =ar x/\scope.names.lookup x=ar .free
def uk(js:List (Option Nat))(σ:St):St:=js.map fun o=>o.bind fun j=>(σ[j]?).join
def IM(X:Cx)(ifs:List Expr)(t:TT):Prop:=
 ∀(pins:List (dt×Obj)) (s:c_) (σ:St) (H:Hp) (Q:Bool->Hp->Prop),Inv X pins σ H s->t σ H Q->
  er (f_ X.prog X.w) X.A (SM ifs b_ fun c r=>if r=b_ then do let ok<-isTrue c X.env (hS c X.env);aC (A2 ok)else aC (A2 r)) (TP X pins σ Q) X.xe s
theorem Ew:IM X [] (fun _ H Q=>Q b_ H):=fun pins s σ H Q I h=>wpAny_tests_nil ⟨H,I,h⟩
theorem Ey(h:PT X c t):IM X [c] t:=fun pins s σ H Q I hw=>wpAny_tests_one (h pins s σ H Q I hw)
def yL(wi:TI)(js:List (Option Nat))(g:TG)(tt:TT)(te:TE):TE:=fun σ H Q=>wi σ H fun J H1=>∀p,H1 p=none->
 ∃W:Nat->Nat->St->Hp->Prop,(∃m,W 0 m (uk js σ) (upd H1 p (.lst [])))/\∀i m σc Hc,W i m σc Hc->
  (J.stop i Hc/\Q (.ref p) Hc)\/(J.go i Hc/\∃N:St->Hp->Prop,(∀ σ' H',N σ' H'->∃m',m'<m/\W (i+1) m' σ' H')/\∀x H',J.yld i Hc x H'->g x σc H' fun σ2 H2=>tt σ2 H2 fun b H3=>
   if b=b_ then te σ2 H3 fun y H4=>∃xs,H4 p=ar (.lst xs)/\xs.length<sizeLine/\N σ2 (upd H4 p (.lst (xs++[y])))else N σ2 H3)
section
variable {X:Cx}{scope:Scope}{Nc:List Str}{js:List (Option Nat)}{pins:List (dt×Obj)}{σ:St}{H:Hp}{s:c_}
theorem CompScope.has(c:CompScope X scope Nc js)(Z:X.Ok):∀y∈scope.names,y.2= .free->∃a,X.env.cells.lookup y.1=ar a:=fun y Y e=>Z.has y.1 (c.free y Y e)
theorem xG{J:gd}(c:CompScope X scope Nc js)(I:Inv X pins σ H s)(T:∀b∈ex,nQ X pins H b)(N:∀b∈ex,b<s.heap.objs.size)
  (R:C=s.heap.objs.size) (d:J.Ns C (fun _=>none)) (hs:∀b o,s.heap.get? b=ar o->J.get? b=ar o)
  (E:∀p∈kS (C+1) scope.names (kz X.env.cells scope.names []),p∈kz X.env.cells scope.names []\/J.IsCell p.2 none):
  Inv (bX X scope Nc C ex s H) [] (uk js σ) H {s with heap:=J,toks:=tk}:=by
 have Y:=uh (cells:=X.env.cells) scope.names [] (c.has I.ok) (fun _ z=>nomatch z);have Q:∀x a,(kz X.env.cells scope.names []).lookup x=ar a->X.env.cells.lookup x=ar a:=fun x a e=>Y _ (lookup_mem e);have A:∀b o,s.heap.get? b=ar o->b≠C:=fun b o e=>by rw[R];exact MD (Mx e)
 have P:∀p∈kz X.env.cells scope.names [],p.2<C+1:=fun p B=>by
  obtain⟨v,F,K,_⟩:=I.cell p.1 p.2 (Y p B);rw[R];exact Nz (Mx K)
 have Z:∀x a,(kS (C+1) scope.names (kz X.env.cells scope.names [])).lookup x=ar a->X.env.cells.lookup x=ar a\/(C<a/\J.IsCell a none):=fun x a e=>by
  have hm:=lookup_mem e;rcases E _ hm with z|z
  ·exact .inl (Y _ z)
  ·rcases xD hm with y|y
   ·exact .inl (Y _ y)
   ·exact .inr ⟨y,z⟩
 refine⟨⟨I.ok.mod,c.kind,I.ok.glob,I.ok.blt,OV R.symm,fun x y a e1 e2=>xE P (fun x y a e1 e2=>I.ok.inj x y a (Y _ e1) (Y _ e2)) x y a (lookup_mem e1) (lookup_mem e2),fun x G=>?_,fun x a z e=>?_,I.ok.hd,I.ok.frames,.inl rfl,fun b W=>⟨?_,fun x a e z=>?_⟩,
  I.bs,ME I.ok.bsz I.sz,fun b o e W=>?_,fun b W z=>?_,I.stack,I.stkFree⟩,rfl,I.bare,Un.kept hs,⟨_,d,fun i x v e1 e2 e3=>?_⟩,fun x a e=>?_,?_,fun x a e=>?_,(fun p B=>nomatch B),I.hok.kept hs,?_⟩
 ·-- names that are cells here have one
  have t:scope.names.lookup x=ar .free\/scope.names.lookup x=ar .cell:=by
   rcases G with G|G
   ·rcases jM (env:=X.env) (names:=scope.names) G with z|⟨_,z⟩
    ·exact .inr z
    ·exact .inl z
   ·rcases jM (env:=X.env) (names:=scope.names) G with z|⟨z,_⟩
    ·exact .inl z
    ·cases z
  refine Nk.mp (O3 scope.names (C+1) _ ?_);rcases t with z|z
  ·exact .inr (Nk.mpr (mem_lookup (kA scope.names [] (.inl (bL z)))))
  ·exact .inl z
 ·-- the block's own cells are new
  have g:scope.names.lookup x=ar .cell:=by
   have:(scope.names.lookup x==ar .cell)=true:=z;simpa using this
  show s.heap.objs.size<=a;rw[<-R];exact Pa (xF (m:=C+1) scope.names (C+1) _ (.inl (bL g)) (Ms _) e)
 ·show b≠C;rw[R];exact MD (N b W)
 ·rcases Z x a e with y|⟨y,_⟩
  ·exact(T b W).2.2.2.2.1 x a y z
  ·rw[z,R]at y;exact NW _ (PV y (N b W))
 ·have:b<X.base.objs.size:=Mx e;rcases (T b W).2.2.2.1 with z|z
  ·exact I.ok.noex b o e z
  ·exact absurd (MG this (ME I.ok.bsz z)) (NW _)
 ·rcases MK.mp (I.stkSub b z)with e|e
  ·exact(T b W).2.1 e
  ·exact(T b W).2.2.1 e
 ·-- the names that are read from around
  have w:Nc[i]? =ar x:=e1;have:∃j,js[i]? =ar (ar j)/\σ[j]? =ar (ar v):=by
   unfold uk at e2;rw[MO]at e2;cases q:js[i]? with
   |none=>rw[q]at e2;cases e2
   | some o=>
    rw[q]at e2;cases o with
    |none=>cases e2
    |some j=>
     refine⟨j,rfl,?_⟩;have S:(σ[j]?).join=ar v:=MS e2;cases r:σ[j]? with
     |none=>rw[r]at S;cases S
     |some z=>rw[r]at S;exact OG ar S
  obtain⟨j,k,l⟩:=this;obtain⟨f,U⟩:=c.ix i x j w k;obtain⟨m,a3,h⟩:=I.loc;have L:=c.free (x,.free) (bL U) rfl;have O:Bu X.env.scope x:=by
   rcases L with z|z
   ·exact .inr (.inl z)
   ·exact .inr (.inr z)
  obtain⟨u,n,lk⟩:=h j x v f l O;refine⟨u,n,.inr ⟨?_,?_⟩⟩
  ·rcases mU (env:=X.env) U with z|z
   ·exact .inl z
   ·exact .inr z
  ·rcases lk with⟨z,_⟩|⟨_,a,ea,ha⟩
   ·rcases L with y|y
    ·rw[show X.env.kindOf x=ar p8 from y]at z;cases z
    ·rw[show X.env.kindOf x=ar h_ from y]at z;cases z
   ·obtain⟨b,W⟩:=mem_lookup (kA (cells:=X.env.cells) scope.names [] (.inl (bL U)));have:=Q x b W;rw[ea]at this;cases this;obtain⟨F,K,hd⟩:=ha;refine⟨a,?_,F,hs _ _ K,hd⟩;show(kS (C+1) scope.names (kz X.env.cells scope.names [])).lookup x=ar a;rw[ui fun y hy e z=>by have:=c.cel y hy e;rw[z,U]at this;cases this]
    exact W
 ·rcases Z x a e with y|⟨_,y⟩
  ·obtain⟨v,F,K,hd⟩:=I.cell x a y;exact⟨v,F,hs _ _ K,hd⟩
  ·exact⟨_,y⟩
 ·show H C=none;rw[R];exact I.hok.fresh (Ms _)
 ·rcases Z x a e with y|⟨y,_⟩
  ·exact I.freeC x a y
  ·exact I.hok.fresh (by rw[<-R];exact N5 y)
 ·show(uk js σ).length=Nc.length;unfold uk;rw[Mq];exact c.len
theorem B2(I:Inv X pins σ H s)(P:C=s.heap.objs.size)(Z:∀b∈ex,nQ X pins H b)
  (T:Inv (bX X scope Nc C ex s H) [] σc H' s') (hs:sA C s'.heap h2):Inv X pins σ H' {s' with heap:=h2}:=by
 have W:∀b o,s.heap.get? b=ar o->b≠C:=fun b o e=>by rw[P];exact MD (Mx e)
 have B:=T.base;have u:Un (ko X.stack) ex H H' s.heap h2:={
  keep:=fun b o e n Y U=>(hs.2 b (W b o e)).trans (B.keep b o e n Y U)
  slot:=fun b o e n Y U=>by
   obtain⟨Q,q⟩:=B.slot b o e n Y U;exact⟨Q,(hs.2 b (W b o e)).trans q⟩
  free:=B.free
  there:=fun b o e U=>by
   obtain⟨R,q⟩:=B.there b o e U;exact⟨R,(hs.2 b (W b o e)).trans q⟩
  tups:=B.tups
  frzs:=B.frzs
  tbls:=B.tbls}
 refine I.call' (s':={s' with heap:=h2}) (ch:=ex) T.os u (fun b o e=>?_) T.bare fun b Y=>⟨(Z b Y).2.2.2.1,(Z b Y).2.1,(Z b Y).2.2.2.2.1,(Z b Y).2.2.2.2.2⟩;have S:∀b o,H' b=ar o->b≠C:=fun b o e z=>by
  have hf:H' C=none:=T.free;rw[z,hf]at e;cases e
 refine(T.hok b o e).stay (fun d v hd q=>?_) (fun _ q=>q) fun _ _ q=>q;refine(hs.2 d ?_).trans q;rcases hd with z|z
 ·subst z;exact S _ _ e
 ·exact S _ _ z
theorem vL{Q:VK}(G:Option (a_->Sem Unit))(Qr:a_->c_->Prop)(c:CompScope X scope Nc js)(hc:X.calm=b_)(hi:PI X tg iter wi)
  (a4:∀C ex s H,PG (bX X scope Nc C ex s H) tg g/\IM (bX X scope Nc C ex s H) ifs tt/\PE (bX X scope Nc C ex s H) elt te)
  (I:Inv X pins σ H s) (h:yL wi js g tt te σ H Q)
  (k:∀p C s' S,Q (.ref p) S->(∀B,sA C s'.heap B->Inv X pins σ S {s' with heap:=B})->(∃m,s'.heap.Ns C m)->nQ X pins S C->
   compPost (f_ X.prog X.w) X.A X.xe G Qr (.ref p) C (.ok .next) s')
  (hs:∀x,n3 iter X.env x=aC x:=by intro _;rfl):
  er (f_ X.prog X.w) X.A (comprehension (.ListComp elt [⟨tg,iter,ifs,0⟩] scope pos) scope X.env pos' (SN []) dV (hS iter X.env) G) Qr X.xe s:=by
 refine wpAny_comprehension_free rfl hs (mT scope X.env (c.has I.ok)) c.kind c.loc (eJ (hi pins s σ H _ I h) fun v s1 F=>eJ F fun d4 s2 B=>?_);obtain⟨it,Y,a,J,U,e,I2,T,j,f2,hW⟩:=B;subst e;refine M0 (Ay fun F R K O=>?_);dsimp only at R K O⊢;obtain⟨W,⟨m0,w0⟩,turn⟩:=hW s2.heap.objs.size (I2.hok.fresh (Ms _));have f:Inv X pins σ (upd U s2.heap.objs.size (.lst [])) {s2 with heap:=s2.heap.push {cls:=.type "list",dict:=none,data:=.seq ([]:List a_).toArray}}:=
  I2.laid (t':=s2.toks) (fun _ _ q=>Mp _ q) (Ms _) ⟨ML _,[],0,.nil,Mz _ rfl⟩
 generalize hS3:({s2 with heap:=s2.heap.push {cls:=.type "list",dict:=none,data:=.seq ([]:List a_).toArray}}:c_)=s3 at f;have e3:s3.heap=s2.heap.push {cls:=.type "list",dict:=none,data:=.seq ([]:List a_).toArray}:=by rw[<-hS3]
 rw[<-e3]at R K O⊢;generalize hp:s2.heap.objs.size=p at*;have E:∀b∈Y,b<p:=fun b Z=>by
  obtain⟨o,e,_⟩:=T.obj _ _ j b Z;rw[<-hp];exact Mx e
 have a9:∀b∈Y,b≠p:=fun b Z=>MD (E b Z);have f3:∀b∈Y,nQ X pins (upd U p (.lst [])) b:=fun b Z=>⟨by rw[aK (a9 b Z)];exact(f2 b Z).1,(f2 b Z).2⟩
 have l:s3.heap.objs.size=p+1:=by rw[e3,NB,hp]
 have t:∀b∈Y,b<s3.heap.objs.size:=fun b Z=>by rw[l];exact Nz (E b Z)
 have P:∀b o,s3.heap.get? b=ar o->F.get? b=ar o:=K;have b2:a 0 F:=T.keep _ _ _ j fun b Z o e=>P b o (by rw[e3];exact Mp _ e)
 generalize hC:s3.heap.objs.size=C at*;have a5:F.Ns C (fun _=>none):=by simpa using R
 have start:∀tk,Inv (bX X scope Nc C Y s3 (upd U p (.lst []))) [] (uk js σ) (upd U p (.lst [])) {s3 with heap:=F,toks:=tk}:=fun tk=>xG c f f3 (fun b Z=>by rw[hC];exact t b Z) hC.symm a5 P O
 have ok:=(start 0).ok;have L:∀{S:Hp},(∀b∈Y,S b=none)->∀b∈Y,nQ (bX X scope Nc C Y s3 (upd U p (.lst []))) [] S b:=fun hn b Z=>
  ⟨hn b Z,(ok.exf b Z).1,ok.exfs b Z,.inl Z,(ok.exf b Z).2,fun _ z=>nomatch z⟩
 obtain⟨hG,hT,hE⟩:=a4 C Y s3 (upd U p (.lst []));have loop:∀s':c_,Inv (bX X scope Nc C Y s3 (upd U p (.lst []))) [] (uk js σ) (upd U p (.lst [])) s'->a 0 s'.heap->
   B_ (f_ X.prog X.w) X.A (.compLoop (.ListComp elt [⟨tg,iter,ifs,0⟩] scope pos) 0 (.ref it) (.ref p) (bX X scope Nc C Y s3 (upd U p (.lst []))).env) (compPost (f_ X.prog X.w) X.A X.xe G Qr (.ref p) C) s':=by
  intro s' I' a6;refine codeAny_loop rfl (fun n s'=>∃i σ' S,Inv (bX X scope Nc C Y s3 (upd U p (.lst []))) [] σ' S s'/\a i s'.heap/\(∀b∈Y,S b=none)/\W i n σ' S) ?_ m0 ⟨0,_,_,I',a6,fun b Z=>(f3 b Z).1,w0⟩;rintro n s4 ⟨i,σ4,H4,I4,st4,fr4,w4⟩;show er _ X.A ((compTurn (.ListComp elt [⟨tg,iter,ifs,0⟩] scope pos) 0 (.ref it) (.ref p) (bX X scope Nc C Y s3 (upd U p (.lst []))).env).onRaise (fun x=>do Q5 x (bX X scope Nc C Y s3 (upd U p (.lst []))).env;theTreesLotGoes x)) _ _ s4
  refine wpAny_noted ?_;rw[compTurn_list];refine Mo (NN (Mo ?_));rcases turn i n σ4 H4 w4 with⟨stop,qn⟩|⟨go,N,hN,step⟩
  ·refine Nf (T.done (bX X scope Nc C Y s3 (upd U p (.lst []))) rfl rfl rfl hc i [] s4 σ4 H4 (fun _ _=>False) I4 (L fr4) st4 stop) (fun r s5 ⟨hr,I5⟩=>?_) fun _ _ z=>z.elim;subst hr;refine Mr (k p C s5 H4 qn (fun B a0=>B2 f hC.symm f3 I5 a0) ?_ (f.fpOk (OV hC) I5.free));obtain⟨m,hm,_⟩:=I5.loc;exact⟨m,hm⟩
  ·refine Nf (T.item (bX X scope Nc C Y s3 (upd U p (.lst []))) rfl rfl rfl hc i [] s4 σ4 H4 (fun _ _=>False) I4 (L fr4) st4 go) (fun r s5 ⟨u,hr,h5⟩=>?_) fun _ _ z=>z.elim;subst hr;refine Mo (Nf h5 (fun _ s6 ⟨x,H6,I6,r6,y6,st6,fr6⟩=>?_) fun _ _ z=>z.elim);have b3:=I6.pinned (L fr6) (T.obj _ _ st6);refine Mo (Nf (hG _ s6 σ4 H6 x u _ b3 r6 (step x H6 y6)) (fun _ s7 ⟨σ7,H7,I7,q7⟩=>?_) fun _ _ z=>z.elim);refine Mo (Nf (hT _ s7 σ7 H7 _ I7 q7) (fun b s8 ⟨H8,I8,q8⟩=>?_) fun _ _ z=>z.elim);have RO:∀{σ9:St} {H9:Hp} {s9:c_},Inv (bX X scope Nc C Y s3 (upd U p (.lst []))) ([]++pT Y s6.heap) σ9 H9 s9->N σ9 H9->
     ∃m,m<n/\∃i σ' S,Inv (bX X scope Nc C Y s3 (upd U p (.lst []))) [] σ' S s9/\a i s9.heap/\(∀b∈Y,S b=none)/\W i m σ' S:=fun{σ9 H9 s9} I9 n9=>by
    obtain⟨m',hm,w9⟩:=hN σ9 H9 n9;refine⟨m',hm,i+1,σ9,H9,I9.unpinned,T.keep _ _ _ st6 fun b Z o e=>(I9.pin (b,o) (MX _ (MX _ (jL Z e)))).1,fun b Z=>?_,w9⟩;obtain⟨o,e,d⟩:=T.obj _ _ st6 b Z;exact(I9.pin (b,o) (MX _ (MX _ (jL Z e)))).2.1
   cases b with
   |false=>exact Mr ⟨rfl,RO I8 q8⟩
   |true=>
    refine Mo (Mo (Nf (hE _ s8 σ7 H8 _ I8 q8) (fun y s9 ⟨yv,H9,I9,r9,q9⟩=>?_) fun _ _ z=>z.elim));obtain⟨xs,hx,hl,n9⟩:=q9;refine Mo (Nf (sL (X:=bX X scope Nc C Y s3 (upd U p (.lst []))) _ s9 σ7 H9 (.ref p) [yv] (.ref p) [y] (fun _ S=>N σ7 S) I9 rfl (.cons r9 .nil) ⟨p,xs,yv,rfl,rfl,hx,hl,n9⟩) (fun _ s10 ⟨_,H10,I10,_,q10⟩=>?_) fun _ _ z=>z.elim);exact Mr (Mr ⟨rfl,RO I10 q10⟩)
 refine codeAny_compStart_list (loop _ ?_ ?_) (T.self _ 0 _ _ _ ?_ (loop _ ?_ ?_))
 all_goals first
  |exact b2
  |(subst hS3;exact start _)
theorem Ez(c:CompScope X scope Nc js)(S:X.calm=b_)(hi:PI X tg iter wi)
  (Y:∀C ex s H,PG (bX X scope Nc C ex s H) tg g/\IM (bX X scope Nc C ex s H) ifs tt/\PE (bX X scope Nc C ex s H) elt te)
  (hs:∀x,n3 iter X.env x=aC x:=by intro _;rfl):PE X (.ListComp elt [⟨tg,iter,ifs,0⟩] scope pos) (yL wi js g tt te):=by
 intro pins s σ H Q I h;rw[eval_ListComp];refine vL none _ c S hi Y I h (fun p C s' R q T W _=>?_) hs;obtain⟨m,hm⟩:=W;exact⟨m,hm,fun U Z=>⟨.ref p,R,T U Z,rfl,q⟩⟩
theorem xH{pos:Pos}(G:X.N.Nodup)(W:X.N[i]? =ar x)(R:Loc X.env.scope x)
  (c:CompScope X scope Nc js) (K:X.calm=b_) (hi:PI X tg iter wi)
  (U:∀C ex s H,PG (bX X scope Nc C ex s H) tg g/\IM (bX X scope Nc C ex s H) ifs tt/\PE (bX X scope Nc C ex s H) elt te)
  (T:la (.ListComp elt [⟨tg,iter,ifs,0⟩] scope cpos) (ar (.Name x pos')) pos.line X.env=aC true:=by rfl)
  (Q:X.fn x=b_\/X.env.scope.names.lookup x=ar .local:=by first|exact .inl rfl|exact .inr rfl|assumption)
  (hs:∀x,n3 iter X.env x=aC x:=by intro _;rfl):PS X (.Assign [.Name x pos'] (.ListComp elt [⟨tg,iter,ifs,0⟩] scope cpos) pos) (GP (yL wi js g tt te) (BC i)):=by
 intro pins s σ H D I h;rw[exec_Assign_Name_used _ _ _ _ T];refine Mo (NN (Mo ?_));show er _ X.A (do let _<-comprehension (.ListComp elt [⟨tg,iter,ifs,0⟩] scope cpos) scope X.env _ (SN []) dV (hS iter X.env) (ar (QK (.Name x pos') X.env))) _ _ s
 refine Mo (eJ (vL (ar (QK (.Name x pos') X.env)) (fun _ s'=>SP X pins D .next s') c K hi U I h (fun p C s' S q P F Z=>?_) hs) fun _ s' q=>Mr (Mr q));obtain⟨m,hm⟩:=F;have J:Inv X pins σ S s':=P s'.heap (.refl ..);refine wpAny_assign_Name (sE J G W R (v:=.ref p) rfl (fun s'' I'' ⟨a,hsb,ha⟩=>?_) Q);have L:C≠a:=by
  rcases ha with z|z
  ·rw[z];exact Z.2.1
  ·exact fun e=>Z.2.2.2.2.1 x a z e.symm
 refine⟨m,hm.sameBut hsb L,fun E Y=>?_⟩;exact⟨_,S,I''.turned (t':=s''.toks) (it:=C) (fun b o O e=>(Y.2 b O).trans e) Z.1 Z.2.1 Z.2.2.2.1 Z.2.2.2.2.1 Z.2.2.2.2.2,q⟩
end
inductive D where
 |non|bl (b:Bool)|int (i:Int)|str (x:Str)|tup (ds:List D)|lst (k:Nat)|ro (ds:List D)|emp
 |fn (a c:dt) (q:Str) (ds:List D) (vs:List V)|exc (x:Str) (ds:List D)
 |fz (ds:List D)
abbrev aF:=List (List D)
inductive Res(α:Type) where
 |ok (a:α)|ex (x:D)
def M(α:Type):=aF->Option (Res α×aF)
namespace M
def ret{α:Type}(a:α):M α:=fun S=>ar (.ok a,S)
def bnd{α β:Type}(m:M α)(f:α->M β):M β:=fun S=>match m S with
 |some (.ok a,S')=>f a S'
 |some (.ex x,S')=>ar (.ex x,S')
 |none=>none
def fail{α:Type}:M α:=fun _=>none
def raise{α:Type}(x:D):M α:=fun S=>ar (.ex x,S)
noncomputable instance:Monad M where
 pure:=ret
 bind:=bnd
end M
def Mf(K:d_)(a:dt)(xs:List V):Prop:=∃(o:Obj) (its:Array a_) (n:Nat),K.lookup a=ar o/\o.cls= .type "list"/\o.dict=none/\o.data= .seq its n/\its.size<=sizeLine/\bw xs its.toList
def D8(K:d_)(H:Hp)(a:dt)(vs:List V):Prop:=(∃o,H a=ar (.frz o (.lst vs)))\/Mf K a vs
theorem D8.sq{K:d_}{H:Hp}{a:dt}{vs:List V}(h:D8 K H a vs):kY K H a vs:=h.imp (fun⟨o,e⟩=>.inr ⟨o,e⟩) fun z=>z
def oX(C a:dt)(od:Option dt):gd->Prop:=fun h=>∃oe vs,h.get? a=ar oe/\oe.cls= .ref C/\oe.dict=od/\oe.data= .fields vs
def rZ(qual:Str)(c:dt):gd->Prop:=fun h=>h.CodeRec (.ref c) qual
def cI:List Str:=["law","_law_within_right","_law_refusals_right","_law_sharings_right","_law_right","_law_lists_right","_law_papers_right","_law_great_right","_law_told_right","_law_desks_right","_law_texts_right"]
def TabsOk(K:d_)(H:Hp):Prop:=∀x∈cI,∀c P,m2 K x=ar (c,P)->∃ps,H P=ar (.tbl ps)/\R7 ps.toList/\
 ∀pos cv,K_ pos ps.toList=ar cv->∃c',cv= .ref c'/\H c'=ar (.ext (rZ (x++".<locals>.<lambda>") c'))
theorem TabsOk.mono{K:d_}{H Z:Hp}(h:TabsOk K H)(k:∀a o,H a=ar o->(∀vs,o≠ .lst vs)->Z a=ar o):TabsOk K Z:=fun x Y c P e=>
 let ⟨ps,h1,h2,h3⟩:=h x Y c P e
 ⟨ps,k _ _ h1 (by intro _ z;cases z),h2,fun pos cv q=>let ⟨c',e1,e2⟩:=h3 pos cv q;⟨c',e1,k _ _ e2 (by intro _ z;cases z)⟩⟩
mutual
inductive RelD(K:d_)(ι:List dt)(H:Hp):D->V->Prop where
 |non:RelD K ι H .non .non
 |bl (b:Bool):RelD K ι H (.bl b) (.bl b)
 |int (i:Int):RelD K ι H (.int i) (.int i)
 |str (x:Str):RelD K ι H (.str x) (.str x)
 |tup {a:dt} {ds:List D} {vs:List V}:H a=ar (.tup vs)->RelDs K ι H ds vs->RelD K ι H (.tup ds) (.ref a)
 |lst {a:dt} {k:Nat}:ι[k]? =ar a->RelD K ι H (.lst k) (.ref a)
 |ro {a:dt} {ds:List D} {vs:List V}:D8 K H a vs->RelDs K ι H ds vs->RelD K ι H (.ro ds) (.ref a)
 |emp {a:dt}:H a=ar (.dK [])->RelD K ι H .emp (.ref a)
 |fn {a c:dt} {q:Str} {ds:List D} {vs:List V}:H c=ar (.ext (rZ q c))->RelDs K ι H ds vs->RelD K ι H (.fn a c q ds vs) (.ref a)
 |exc {a C:dt} {x:Str}:p_ K g_ x=ar (ar (.ref C))->H a=ar (.ext (oX C a none))->RelD K ι H (.exc x []) (.ref a)
 |excF {a C dx:dt} {x:Str} {fs:List (Str×V)} {ds:List D}:p_ K g_ x=ar (ar (.ref C))->H a=ar (.ext (oX C a (ar dx)))->H dx=ar (.xd fs)->fs.map (·.1)=([("many":Str),("most":Str)]:List Str)->RelDs K ι H ds (fs.map (·.2))->RelD K ι H (.exc x ds) (.ref a)
 |fz {a:dt} {o:Obj} {ds:List D} {vs:List V}:H a=ar (.frz o (.lst vs))->RelDs K ι H ds vs->RelD K ι H (.fz ds) (.ref a)
inductive RelDs(K:d_)(ι:List dt)(H:Hp):List D->List V->Prop where
 |nil:RelDs K ι H [] []
 |cons {d:D} {v:V} {ds:List D} {vs:List V}:RelD K ι H d v->RelDs K ι H ds vs->RelDs K ι H (d::ds) (v::vs)
end
structure Rep(K:d_)(ι:List dt)(H:Hp)(S:aF):Prop where
 nd:ι.Nodup
 len:ι.length=S.length
 get:∀(k:Nat) (a:dt) (xs:List D),ι[k]? =ar a->S[k]? =ar xs->∃vs,H a=ar (.lst vs)/\RelDs K ι H xs vs
 tab:TabsOk K H
structure Ext(ι:List dt)(H:Hp)(ι':List dt)(H':Hp):Prop where
 ids:∃more,ι'=ι++more
 oth:∀a o,H a=ar o->a∉ι->(∀ps,o≠ .tbl ps)->H' a=ar o/\a∉ι'
structure ExtN(ι:List dt)(H:Hp)(ι':List dt)(H':Hp):Prop where
 ids:∃more,ι'=ι++more
 oth:∀a o,H a=ar o->a∉ι->(∀ps,o≠ .tbl ps)->(∀vs,o≠ .lst vs)->H' a=ar o/\a∉ι'
theorem Ext.n{ι Z:List dt}{H Y:Hp}(e:Ext ι H Z Y):ExtN ι H Z Y:=⟨e.ids,fun a o h n t _=>e.oth a o h n t⟩
theorem Ext.refl{ι:List dt}{H:Hp}:Ext ι H ι H:=⟨⟨[],by simp⟩,fun _ _ h n _=>⟨h,n⟩⟩
theorem Ext.trans{ι Y Z:List dt}{H X W:Hp}(a:Ext ι H Y X)(b:Ext Y X Z W):Ext ι H Z W:=by
 obtain⟨T,e1⟩:=a.ids;obtain⟨U,e2⟩:=b.ids;exact⟨⟨T++U,by rw[e2,e1,MY]⟩,fun c o h n t=>let ⟨h1,n1⟩:=a.oth c o h n t;b.oth c o h1 n1 t⟩
theorem ExtN.at{ι Z:List dt}{H X:Hp}(e:ExtN ι H Z X){k:Nat}{a:dt}(h:ι[k]? =ar a):Z[k]? =ar a:=by
 obtain⟨m,rfl⟩:=e.ids;have Y:k<ι.length:=(Mv.mp h).1;rw[MN Y];exact h
section
variable {K:d_}{ι ι':List dt}{H H':Hp}{S:aF}
theorem Rep.isL(r:Rep K ι H S)(h:a∈ι):∃vs,H a=ar (.lst vs):=by
 obtain⟨k,Y,e⟩:=Pq.mp h;have Z:k<S.length:=by rw[<-r.len];exact Y
 obtain⟨vs,X,_⟩:=r.get k a (S[k]) (by rw[Mt Y,e]) (Mt Z)
 exact⟨vs,X⟩
theorem Rep.notIn(r:Rep K ι H S)(h:H a=ar o)(Z:∀vs,o≠ .lst vs):a∉ι:=fun z=>by
 obtain⟨vs,e⟩:=r.isL z;rw[h]at e;exact Z vs (MS e)
theorem Rep.free(r:Rep K ι H S)(h:H a=none):a∉ι:=fun z=>by
 obtain⟨vs,e⟩:=r.isL z;rw[h]at e;cases e
mutual
theorem RelD.laterN(r:Rep K ι H S)(e:ExtN ι H ι' H'):∀{d:D} {v:V},RelD K ι H d v->RelD K ι' H' d v
 |_,_,.non=>.non
 |_,_,.bl b=>.bl b
 |_,_,.int i=>.int i
 |_,_,.str x=>.str x
 |_,_,.tup h hs=>.tup (e.oth _ _ h (r.notIn h (by intro _ z;cases z)) (by intro _ z;cases z) (by intro _ z;cases z)).1 (RelDs.laterN r e hs)
 |_,_,.lst h=>.lst (e.at h)
 |_,_,.ro h hs=>.ro (h.imp (fun⟨o,h⟩=>⟨o,(e.oth _ _ h (r.notIn h (by intro _ z;cases z)) (by intro _ z;cases z) (by intro _ z;cases z)).1⟩) fun z=>z) (RelDs.laterN r e hs)
 |_,_,.emp h=>.emp (e.oth _ _ h (r.notIn h (by intro _ z;cases z)) (by intro _ z;cases z) (by intro _ z;cases z)).1
 |_,_,.fn h hs=>.fn (e.oth _ _ h (r.notIn h (by intro _ z;cases z)) (by intro _ z;cases z) (by intro _ z;cases z)).1 (RelDs.laterN r e hs)
 |_,_,.exc n h=>.exc n (e.oth _ _ h (r.notIn h (by intro _ z;cases z)) (by intro _ z;cases z) (by intro _ z;cases z)).1
 |_,_,.excF n h h2 hn hs=>.excF n (e.oth _ _ h (r.notIn h (by intro _ z;cases z)) (by intro _ z;cases z) (by intro _ z;cases z)).1 (e.oth _ _ h2 (r.notIn h2 (by intro _ z;cases z)) (by intro _ z;cases z) (by intro _ z;cases z)).1 hn (RelDs.laterN r e hs)
 |_,_,.fz h hs=>.fz (e.oth _ _ h (r.notIn h (by intro _ z;cases z)) (by intro _ z;cases z) (by intro _ z;cases z)).1 (RelDs.laterN r e hs)
theorem RelDs.laterN(r:Rep K ι H S)(e:ExtN ι H ι' H'):∀{ds:List D} {vs:List V},RelDs K ι H ds vs->RelDs K ι' H' ds vs
 |_,_,.nil=>.nil
 |_,_,.cons h hs=>.cons (RelD.laterN r e h) (RelDs.laterN r e hs)
end
theorem RelD.later(r:Rep K ι H S)(e:Ext ι H ι' H'){d:D}{v:V}(h:RelD K ι H d v):RelD K ι' H' d v:=RelD.laterN r e.n h
theorem RelDs.later(r:Rep K ι H S)(e:Ext ι H ι' H'){ds:List D}{vs:List V}(h:RelDs K ι H ds vs):RelDs K ι' H' ds vs:=RelDs.laterN r e.n h
theorem RelDs.length:∀{ds:List D} {vs:List V},RelDs K ι H ds vs->ds.length=vs.length
 |_,_,.nil=>rfl
 |_,_,.cons _ t=>by rw[MW,MW,RelDs.length t]
theorem RelDs.append:∀{ds es:List D} {vs ws:List V},RelDs K ι H ds vs->RelDs K ι H es ws->RelDs K ι H (ds++es) (vs++ws)
 |_,_,_,_,.nil,s=>s
 |_,_,_,_,.cons r t,s=>.cons r (RelDs.append t s)
theorem RelDs.get':∀{ds:List D} {vs:List V} {i:Nat} {d:D},RelDs K ι H ds vs->ds[i]? =ar d->∃v,vs[i]? =ar v/\RelD K ι H d v
 |_,_,_,_,.nil,e=>by simp at e
 |_,_,0,_,.cons r _,e=>by simp at e;subst e;exact⟨_,rfl,r⟩
 |_,_,i+1,v,.cons _ t,e=>by
  obtain⟨u,Z,Y⟩:=RelDs.get' (i:=i) t (by simpa using e)
  exact⟨u,by simpa using Z,Y⟩
theorem RelDs.take:∀{ds:List D} {vs:List V} (n:Nat),RelDs K ι H ds vs->RelDs K ι H (ds.take n) (vs.take n)
 |_,_,0,_=>.nil
 |_,_,_+1,.nil=>.nil
 |_,_,n+1,.cons r t=>.cons r (RelDs.take n t)
theorem RelDs.drop:∀{ds:List D} {vs:List V} (n:Nat),RelDs K ι H ds vs->RelDs K ι H (ds.drop n) (vs.drop n)
 |_,_,0,r=>r
 |_,_,_+1,.nil=>.nil
 |_,_,n+1,.cons _ t=>RelDs.drop n t
theorem RelDs.set(r:RelD K ι H d v):∀{ds:List D} {vs:List V} (i:Nat),RelDs K ι H ds vs->RelDs K ι H (ds.set i d) (vs.set i v)
 |_,_,_,.nil=>.nil
 |_,_,0,.cons _ t=>.cons r t
 |_,_,i+1,.cons q t=>.cons q (RelDs.set r i t)
theorem RelDs.eraseIdx:∀{ds:List D} {vs:List V} (i:Nat),RelDs K ι H ds vs->RelDs K ι H (ds.eraseIdx i) (vs.eraseIdx i)
 |_,_,_,.nil=>.nil
 |_,_,0,.cons _ t=>t
 |_,_,i+1,.cons q t=>.cons q (RelDs.eraseIdx i t)
theorem RelDs.reverse:∀{ds:List D} {vs:List V},RelDs K ι H ds vs->RelDs K ι H ds.reverse vs.reverse
 |_,_,.nil=>.nil
 |_,_,.cons r t=>by rw[O9,O9];exact(RelDs.reverse t).append (.cons r .nil)
theorem fO(Z:H p=none):Ext ι H ι (upd H p o):=⟨⟨[],by simp⟩,fun a Y h n _=>⟨by rw[aK (aR h Z)];exact h,n⟩⟩
theorem gH{p:dt}{o:HO}(r:Rep K ι H S)(Z:H p=none):Rep K ι (upd H p o) S:=by
 refine⟨r.nd,r.len,fun k a xs e1 e2=>?_,r.tab.mono fun b o h _=>by rw[aK (aR h Z)];exact h⟩
 obtain⟨vs,Y,X⟩:=r.get k a xs e1 e2;exact⟨vs,by rw[aK (aR Y Z)];exact Y,RelDs.later r (fO Z) X⟩
theorem vM(Z:H p=none):Ext ι H (ι++[p]) (upd H p o):=⟨⟨[p],rfl⟩,fun a Y h n _=>⟨by rw[aK (aR h Z)];exact h,by
 have:a≠p:=aR h Z;simp[n,this]⟩⟩
theorem B3{p:dt}{xs:List D}{vs:List V}(r:Rep K ι H S)(Z:H p=none)(h:RelDs K ι H xs vs):Rep K (ι++[p]) (upd H p (.lst vs)) (S++[xs]):=by
 have U:Ext ι H (ι++[p]) (upd H p (.lst vs)):=vM Z;refine⟨?_,by simp[r.len],fun k a ys e1 e2=>?_,r.tab.mono fun b o h _=>by rw[aK (aR h Z)];exact h⟩
 ·rw[List.nodup_append];refine⟨r.nd,by simp,fun a T b Q=>?_⟩
  have:b=p:=by simpa using Q
  subst this;rintro rfl;exact r.free Z T
 ·by_cases hk:k<ι.length
  ·rw[MN hk]at e1;rw[MN (by rw[<-r.len];exact hk)]at e2
   obtain⟨ws,X,R⟩:=r.get k a ys e1 e2;exact⟨ws,by rw[aK (aR X Z)];exact X,RelDs.later r U R⟩
  ·have Y:k<(ι++[p]).length:=(Mv.mp e1).1;have:k=ι.length:=by simp at Y;omega
   subst this;simp at e1;rw[r.len]at e2;simp at e2;subst e1 e2;exact⟨vs,aX,RelDs.later r U h⟩
theorem qb:∀{l:List dt} {i j:Nat} {a:dt},l.Nodup->l[i]? =ar a->l[j]? =ar a->i=j
 |[],i,j,a,_,h,_=>by simp at h
 |x::r,0,0,a,_,_,_=>rfl
 |x::r,0,j+1,a,hn,h1,h2=>by
  simp at h1 h2;subst h1;exact absurd (M1 h2) (Nj.mp hn).1
 |x::r,i+1,0,a,hn,h1,h2=>by
  simp at h1 h2;subst h2;exact absurd (M1 h1) (Nj.mp hn).1
 |x::r,i+1,j+1,a,hn,h1,h2=>by
  simp at h1 h2;rw[qb (Nj.mp hn).2 h1 h2]
theorem um(Z:a∈ι):Ext ι H ι (upd H a o):=⟨⟨[],by simp⟩,fun b Y h n _=>⟨by rw[aK (fun z=>n (by rw[z];exact Z))];exact h,n⟩⟩
theorem uo{a:dt}{k:Nat}{xs:List D}{vs:List V}(r:Rep K ι H S)(Z:ι[k]? =ar a)(h:RelDs K ι H xs vs):Rep K ι (upd H a (.lst vs)) (S.set k xs):=by
 have Y:a∈ι:=M1 Z;have X:Ext ι H ι (upd H a (.lst vs)):=um Y;refine⟨r.nd,by simp[r.len],fun j b ys e1 e2=>?_,r.tab.mono fun b o h n=>by
  obtain⟨ws,hw⟩:=r.isL Y;rw[aK (fun z=>by subst z;rw[h]at hw;exact n ws (MS hw))];exact h⟩
 by_cases hj:j=k
 ·subst hj;rw[Z]at e1;cases e1;have U:j<S.length:=by rw[<-r.len];exact(Mv.mp Z).1
  rw[M9 U]at e2;cases e2;exact⟨vs,aX,RelDs.later r X h⟩
 ·rw[Nv (kr hj)]at e2;obtain⟨ws,T,R⟩:=r.get j b ys e1 e2;have Q:b≠a:=by
   rintro rfl;exact hj (qb r.nd e1 Z)
  exact⟨ws,by rw[aK Q];exact T,RelDs.later r X R⟩
end
abbrev XD:=D->List dt->aF->Hp->Prop
def cont(K:d_)(E:XD){α:Type}(c:M α)(ι:List dt)(S:aF)(H:Hp)(Q:α->List dt->aF->Hp->Prop):Prop:=
 ∃r S',c S=ar (r,S')/\∀ ι' H',Ext ι H ι' H'->Rep K ι' H' S'->match r with
  | .ok a=>Q a ι' S' H'
  | .ex x=>E x ι' S' H'
section
variable {K:d_}{E:XD}{ι:List dt}{S:aF}{H:Hp}{α β:Type}
theorem aq{c:M α}{f:α->M β}{Q:β->List dt->aF->Hp->Prop}(h:cont K E (c>>=f) ι S H Q):cont K E c ι S H (fun a Z S1 X=>cont K E (f a) Z S1 X Q):=by
 obtain⟨r,R,e,k⟩:=h;have Y:M.bnd c f S=ar (r,R):=e;unfold M.bnd at Y;cases q:c S with
 |none=>rw[q]at Y;cases Y
 | some p=>
  obtain⟨N,S1⟩:=p;rw[q]at Y;cases N with
  |ok a=>exact⟨.ok a,S1,q,fun Z X T rep1=>⟨r,R,Y,fun U O P rep2=>k U O (T.trans P) rep2⟩⟩
  |ex x=>
   cases Y;exact⟨.ex x,_,q,fun Z X T rep1=>k Z X T rep1⟩
theorem aD{c:M α}{Q T:α->List dt->aF->Hp->Prop}(h:cont K E c ι S H Q)(k:∀a ι' Z H',Ext ι H ι' H'->Rep K ι' H' Z->Q a ι' Z H'->T a ι' Z H'):cont K E c ι S H T:=by
 obtain⟨r,Z,e,q⟩:=h;refine⟨r,Z,e,fun Y X U rep1=>?_⟩;have:=q Y X U rep1;cases r with
 |ok a=>exact k a Y Z X U rep1 this
 |ex x=>exact this
theorem ao{a:α}{Q:α->List dt->aF->Hp->Prop}(h:cont K E (aC a) ι S H Q){Z:List dt}{Y:Hp}(x:Ext ι H Z Y)(r:Rep K Z Y S):Q a Z S Y:=by
 obtain⟨X,U,e,q⟩:=h;cases e;exact q Z Y x r
theorem aj{Q:α->List dt->aF->Hp->Prop}(h:cont K E (M.fail) ι S H Q):False:=by
 obtain⟨Y,Z,e,q⟩:=h;cases e
end
abbrev aP:=List (Option D)
inductive RelE(K:d_)(ι:List dt)(H:Hp):aP->St->Prop where
 |nil:RelE K ι H [] []
 |cons {o:Option D} {u:Option V} {ρ:aP} {σ:St}:(∀d,o=ar d->∃v,u=ar v/\RelD K ι H d v)->RelE K ι H ρ σ->RelE K ι H (o::ρ) (u::σ)
section
variable {K:d_}{ι ι':List dt}{S:aF}{H H':Hp}
theorem RelE.later(r:Rep K ι H S)(e:Ext ι H ι' H'):∀{ρ:aP} {σ:St},RelE K ι H ρ σ->RelE K ι' H' ρ σ
 |_,_,.nil=>.nil
 |_,_,.cons h t=>.cons (fun d z=>let ⟨v,e1,e2⟩:=h d z;⟨v,e1,RelD.later r e e2⟩) (RelE.later r e t)
theorem RelE.get:∀{ρ:aP} {σ:St} {i:Nat} {d:D},RelE K ι H ρ σ->ρ[i]? =ar (ar d)->∃v,σ[i]? =ar (ar v)/\RelD K ι H d v
 |_,_,_,_,.nil,e=>by simp at e
 |_,_,0,_,.cons h _,e=>by
  simp at e;obtain⟨v,e1,e2⟩:=h _ e;exact⟨v,by simp[e1],e2⟩
 |_,_,i+1,_,.cons _ t,e=>by
  obtain⟨v,Y,Z⟩:=RelE.get (i:=i) t (by simpa using e)
  exact⟨v,by simpa using Y,Z⟩
theorem RelE.set(r:RelD K ι H d v):∀{ρ:aP} {σ:St} (i:Nat),RelE K ι H ρ σ->RelE K ι H (ρ.set i (ar d)) (σ.set i (ar v))
 |_,_,_,.nil=>.nil
 |_,_,0,.cons _ t=>.cons (fun d' z=>by cases z;exact⟨v,rfl,r⟩) t
 |_,_,i+1,.cons q t=>.cons q (RelE.set r i t)
theorem RelE.start:∀{ds:List D} {vs:List V},RelDs K ι H ds vs->∀n,RelE K ι H (ds.map ar++lu n none) (vs.map ar++lu n none)
 |_,_,.nil,n=>by
  induction n with
  |zero=>exact .nil
  |succ n ih=>exact .cons (fun d z=>by cases z) ih
 |_,_,.cons r t,n=>.cons (fun d z=>by cases z;exact⟨_,rfl,r⟩) (RelE.start t n)
end
abbrev TM:=aP->M D
def lK(K:d_)(Q:VK):D->List dt->aF->Hp->Prop:=fun d ι' _ H'=>∀v,RelD K ι' H' d v->Q v H'
def tM(K:d_)(E:XD)(m:TM):TE:=fun σ H Q=>∃ ι S ρ,Rep K ι H S/\RelE K ι H ρ σ/\cont K E (m ρ) ι S H (lK K Q)
def SE(X:Cx)(E:XD)(e:Expr)(m:TM):Prop:=PE X e (tM X.K E m)
def Hh(K:d_)(E:XD)(m:aP->M Bool):TT:=fun σ H Q=>∃ ι S ρ,Rep K ι H S/\RelE K ι H ρ σ/\cont K E (m ρ) ι S H (fun b _ _ H'=>Q b H')
def SB(X:Cx)(E:XD)(e:Expr)(m:aP->M Bool):Prop:=PT X e (Hh X.K E m)
def Hi(X:Cx)(E:XD)(e:Expr)(m:aP->M Bool):Prop:=PW X e (Hh X.K E m)
def Lq(K:d_)(E:XD)(m:aP->M (List D)):TA:=fun σ H Q=>∃ ι S ρ,Rep K ι H S/\RelE K ι H ρ σ/\cont K E (m ρ) ι S H (fun ds ι' _ H'=>∀vs,RelDs K ι' H' ds vs->Q vs H')
def SA(X:Cx)(E:XD)(es:List Expr)(m:aP->M (List D)):Prop:=PA X es (Lq X.K E m)
inductive Out where
 |nx (ρ:aP)|ret (d:D)|bk (ρ:aP)|ct (ρ:aP)
abbrev cV:=aP->M Out
def Hj(K:d_)(T:Ends):Out->List dt->aF->Hp->Prop:=fun o ι' _ H'=>match o with
 | .nx ρ=>∀ σ,RelE K ι' H' ρ σ->T.nx σ H'
 | .ret d=>∀v,RelD K ι' H' d v->T.rt v H'
 | .bk ρ=>∀ σ,RelE K ι' H' ρ σ->T.bk σ H'
 | .ct ρ=>∀ σ,RelE K ι' H' ρ σ->T.ct σ H'
def LU(K:d_)(E:XD)(m:cV):TS:=fun T σ H=>∃ ι S ρ,Rep K ι H S/\RelE K ι H ρ σ/\cont K E (m ρ) ι S H (Hj K T)
def SS(X:Cx)(E:XD)(st:ri)(m:cV):Prop:=PS X st (LU X.K E m)
def vN(X:Cx)(E:XD)(st:List ri)(m:cV):Prop:=rS X st (LU X.K E m)
abbrev nO:=D->aP->M aP
def Kx(K:d_)(E:XD)(m:nO):TG:=fun v σ H Q=>∃ ι S ρ d,Rep K ι H S/\RelE K ι H ρ σ/\RelD K ι H d v/\cont K E (m d ρ) ι S H (fun ρ' ι' _ H'=>∀ σ',RelE K ι' H' ρ' σ'->Q σ' H')
def SG(X:Cx)(E:XD)(tg:Expr)(m:nO):Prop:=PG X tg (Kx X.K E m)
theorem PE.imp{X:Cx}{e:Expr}{t t':TE}(h:PE X e t)(k:∀ σ H Q,t' σ H Q->t σ H Q):PE X e t':=fun pins s σ H Q I hw=>h pins s σ H Q I (k σ H Q hw)
theorem PT.imp{X:Cx}{e:Expr}{t t':TT}(h:PT X e t)(k:∀ σ H Q,t' σ H Q->t σ H Q):PT X e t':=fun pins s σ H Q I hw=>h pins s σ H Q I (k σ H Q hw)
theorem PW.imp{X:Cx}{e:Expr}{t t':TT}(h:PW X e t)(k:∀ σ H Q,t' σ H Q->t σ H Q):PW X e t':=fun Z pins s σ H Q I hw=>h Z pins s σ H Q I (k σ H Q hw)
theorem PA.imp{X:Cx}{e:List Expr}{t t':TA}(h:PA X e t)(k:∀ σ H Q,t' σ H Q->t σ H Q):PA X e t':=fun pos pins s σ H Q I hw=>h pos pins s σ H Q I (k σ H Q hw)
theorem PS.imp{X:Cx}{e:ri}{t t':TS}(h:PS X e t)(k:∀D σ H,t' D σ H->t D σ H):PS X e t':=fun pins s σ H D I hw=>h pins s σ H D I (k D σ H hw)
theorem rS.imp{X:Cx}{e:List ri}{t t':TS}(h:rS X e t)(k:∀D σ H,t' D σ H->t D σ H):rS X e t':=fun pins s σ H D I hw=>h pins s σ H D I (k D σ H hw)
theorem PG.imp{X:Cx}{e:Expr}{t t':TG}(h:PG X e t)(k:∀v σ H Q,t' v σ H Q->t v σ H Q):PG X e t':=fun pins s σ H v u Q I r hw=>h pins s σ H v u Q I r (k v σ H Q hw)
section
variable {X:Cx}{E:XD}{a b e:Expr}{m n:TM}{pos:Pos}
def FZ(ρ:aP)(i:Nat):M D:=match ρ[i]? with
 |some (ar d)=>aC d
 |_=>M.fail
theorem aa(i:Nat)(U:X.N[i]? =ar x:=by rfl)(W:Bu X.env.scope x:=by first|exact Rx rfl|exact QL (Rx rfl)|exact QL (QL rfl))(Y:(x==("__debug__":Str))=false:=by decide)
  (Z:(x==("__classdict__":Str))=false:=by decide):SE X E (.Name x pos) (fun ρ=>FZ ρ i):=by
 refine PE.imp (tX U W Y Z) fun σ H Q h=>?_;obtain⟨ι,S,ρ,rep,re,c⟩:=h;unfold FZ at c;dsimp only at c;split at c
 ·next d Y=>
  obtain⟨v,e1,e2⟩:=re.get Y;exact⟨v,e1,ao c .refl rep v e2⟩
 ·exact(aj c).elim
theorem kB(h:PE X e (tC v))(Z:∀ ι H,RelD X.K ι H d v):SE X E e (fun _=>aC d):=by
 refine PE.imp h fun σ H Q h=>?_;obtain⟨ι,S,ρ,rep,re,c⟩:=h;exact ao c .refl rep v (Z _ _)
theorem az{j}:SE X E (.Constant (.int i) j pos) (fun _=>aC (.int i)):=kB xo fun _ _=>.int i
theorem eS{j}:SE X E (.Constant (.bool i) j pos) (fun _=>aC (.bl i)):=kB Jb fun _ _=>.bl i
theorem fU{j}:SE X E (.Constant .none j pos) (fun _=>aC .non):=kB Gz fun _ _=>.non
theorem qc{j}:SE X E (.Constant (.str x) j pos) (fun _=>aC (.str x)):=kB GA fun _ _=>.str x
theorem EB(Y:Gl X x)(W:X.mg x=ar (.int i t))(Z:(x==("__debug__":Str))=false:=by decide):SE X E (.Name x pos) (fun _=>aC (.int i)):=
 kB (yD Y W (v:=.int i) ⟨t,rfl⟩ Z) fun _ _=>.int i
def vB(K:d_)(E:XD)(f:D->D->M D)(r:R2):Prop:=
 ∀ ι S H d1 d2 v1 v2 Q,Rep K ι H S->RelD K ι H d1 v1->RelD K ι H d2 v2->cont K E (f d1 d2) ι S H (lK K Q)->r v1 v2 H Q
theorem EC(U:vB X.K E f r)(h:tM X.K E (fun ρ=>do let x<-m ρ;let y<-n ρ;f x y) σ H Q):Jo r (tM X.K E m) (tM X.K E n) σ H Q:=by
 obtain⟨ι,S,ρ,rep,re,c⟩:=h;refine⟨ι,S,ρ,rep,re,aD (aq c) fun x Y S1 N e1 rep1 R v1 O=>?_⟩;refine⟨Y,S1,ρ,rep1,re.later rep e1,aD (aq R) fun y Z S2 P e2 rep2 W v2 T=>?_⟩;exact U Z S2 P x y v1 v2 Q rep2 (O.later rep1 e2) T W
theorem sP(h:jz X (t8 op) r)(Y:vB X.K E f r)(Z:SE X E a m)(W:SE X E b n):SE X E (.BinOp a op b pos) (fun ρ=>do let x<-m ρ;let y<-n ρ;f x y):=
 PE.imp (Jp h Z W) fun _ _ _ q=>EC Y q
theorem xI(h:jz X (j_ op) r)(Y:vB X.K E f r)(Z:SE X E a m)(W:SE X E b n)(U:mh op b=false:=by first|exact vE _ (by decide) (by decide)|rfl):
  SE X E (.Compare a [op] [b] pos) (fun ρ=>do let x<-m ρ;let y<-n ρ;f x y):=
 PE.imp (El h Z W U) fun _ _ _ q=>EC Y q
theorem JD(h:D7 X r)(Y:vB X.K E f r)(Z:SE X E a m)(W:SE X E b n)(hs:ua b:=by intro _ _;rfl):SE X E (.Subscript a b pos) (fun ρ=>do let x<-m ρ;let y<-n ρ;f x y):=
 PE.imp (Jy h Z W hs) fun _ _ _ q=>EC Y q
end
def lim:Nat:=10000000
theorem gX:lim<=sizeLine:=by rw[Nq];decide
theorem Hk:lim<sizeLine:=by rw[Nq];decide
section
variable {K:d_}{ι:List dt}{H:Hp}
theorem RelD.bl_inv(h:RelD K ι H (.bl b) v):v= .bl b:=by cases h;rfl
theorem RelD.int_inv(h:RelD K ι H (.int b) v):v= .int b:=by cases h;rfl
theorem RelD.str_inv(h:RelD K ι H (.str b) v):v= .str b:=by cases h;rfl
theorem RelD.non_inv(h:RelD K ι H .non v):v= .non:=by cases h;rfl
theorem RelD.tup_inv(h:RelD K ι H (.tup ds) v):∃a vs,v= .ref a/\H a=ar (.tup vs)/\RelDs K ι H ds vs:=by
 cases h with
 |tup h1 h2=>exact⟨_,_,rfl,h1,h2⟩
theorem RelD.lst_inv(h:RelD K ι H (.lst k) v):∃a,v= .ref a/\ι[k]? =ar a:=by
 cases h with
 |lst h1=>exact⟨_,rfl,h1⟩
theorem RelD.ro_inv(h:RelD K ι H (.ro ds) v):∃a vs,v= .ref a/\D8 K H a vs/\RelDs K ι H ds vs:=by
 cases h with
 |ro h1 h2=>exact⟨_,_,rfl,h1,h2⟩
theorem RelD.fz_inv(h:RelD K ι H (.fz ds) v):∃a o vs,v= .ref a/\H a=ar (.frz o (.lst vs))/\RelDs K ι H ds vs:=by
 cases h with
 |fz h1 h2=>exact⟨_,_,_,rfl,h1,h2⟩
theorem RelDs.nil_inv(h:RelDs K ι H [] vs):vs=[]:=by cases h;rfl
theorem RelDs.cons_inv(h:RelDs K ι H (d::ds) vs):∃v ws,vs=v::ws/\RelD K ι H d v/\RelDs K ι H ds ws:=by
 cases h with
 |cons h1 h2=>exact⟨_,_,rfl,h1,h2⟩
end
def lG:D->M Bool
 | .bl b=>aC b
 |_=>M.fail
def getL(k:Nat):M (List D):=fun S=>(S[k]?).bind fun xs=>ar (.ok xs,S)
def bD(ds:List D):M D:=fun S=>if ds.length<=lim then ar (.ok (.lst S.length),S++[ds])else none
def lZ(k:Nat)(ds:List D):M D:=fun S=>if ds.length<=lim/\k<S.length then ar (.ok .non,S.set k ds)else none
def bK(ds:List D):M D:=if ds.length<=lim then aC (.tup ds)else M.fail
section
variable {K:d_}{E:XD}{ι:List dt}{S:aF}{H:Hp}{α:Type}
theorem uq{f:Bool->M α}(Z:Rep K ι H S)(r:RelD K ι H x v)(c:cont K E (lG x>>=f) ι S H Q):∃b,v= .bl b/\x= .bl b/\cont K E (f b) ι S H Q:=by
 cases x with
 |bl b=>exact⟨b,r.bl_inv,rfl,ao (aq c) .refl Z⟩
 |_=>exact(aj (aq c)).elim
theorem qd{Q:Bool->List dt->aF->Hp->Prop}(Z:Rep K ι H S)(r:RelD K ι H x v)(c:cont K E (lG x) ι S H Q):∃b,v= .bl b/\x= .bl b/\Q b ι S H:=by
 cases x with
 |bl b=>exact⟨b,r.bl_inv,rfl,ao c .refl Z⟩
 |_=>exact(aj c).elim
theorem Az{Q:D->List dt->aF->Hp->Prop}(c:cont K E (bD ds) ι S H Q)(Z:Rep K ι H S)(r:RelDs K ι H ds vs):
  vs.length<=lim/\∀p,H p=none->Q (.lst S.length) (ι++[p]) (S++[ds]) (upd H p (.lst vs)):=by
 obtain⟨X,U,e,q⟩:=c;unfold bD at e;split at e
 ·next hl=>
  cases e;exact⟨by rw[<-r.length];exact hl,fun p Y=>q _ _ (vM Y) (B3 Z Y r)⟩
 ·cases e
theorem B4(Z:Rep K ι H S):RelD K (ι++[p]) H' (.lst S.length) (.ref p):=.lst (by rw[<-Z.len];simp)
theorem bJ{Q:VK}(c:cont K E (bD ds) ι S H (lK K Q))(Z:Rep K ι H S)(r:RelDs K ι H ds vs):vs.length<=lim/\∀p,H p=none->Q (.ref p) (upd H p (.lst vs)):=
 let ⟨h1,h2⟩:=Az c Z r
 ⟨h1,fun p Y=>h2 p Y _ (B4 Z)⟩
theorem gx{Q:VK}(c:cont K E (bK ds) ι S H (lK K Q))(Z:Rep K ι H S)(r:RelDs K ι H ds vs):vs.length<=lim/\∀p,H p=none->Q (.ref p) (upd H p (.tup vs)):=by
 unfold bK at c;split at c
 ·next hl=>
  refine⟨by rw[<-r.length];exact hl,fun p Y=>?_⟩
  exact ao c (fO Y) (gH Z Y) _ (.tup aX (r.later Z (fO Y)))
 ·exact(aj c).elim
theorem jN{Q:VK}(c:cont K E (bK ds) ι S H (lK K Q))(Z:Rep K ι H S)(h:H a=ar (.tup vs))(r:RelDs K ι H ds vs):Q (.ref a) H:=by
 unfold bK at c;split at c
 ·exact ao c .refl Z _ (.tup h r)
 ·exact(aj c).elim
theorem bH{f:List D->M α}(c:cont K E (getL k>>=f) ι S H Q)(Z:Rep K ι H S)(Y:ι[k]? =ar a):
  ∃ds vs,S[k]? =ar ds/\H a=ar (.lst vs)/\RelDs K ι H ds vs/\cont K E (f ds) ι S H Q:=by
 obtain⟨T,R,e,q⟩:=aq c;unfold getL at e;cases z:S[k]? with
 |none=>rw[z]at e;cases e
 |some ds=>
  rw[z]at e;cases e;obtain⟨vs,X,U⟩:=Z.get k a ds Y z;exact⟨ds,vs,rfl,X,U,q ι H .refl Z⟩
theorem jC{Q:D->List dt->aF->Hp->Prop}(c:cont K E (lZ k ds) ι S H Q)(Z:Rep K ι H S)(Y:ι[k]? =ar a)(r:RelDs K ι H ds vs):
  vs.length<=lim/\Q .non ι (S.set k ds) (upd H a (.lst vs)):=by
 obtain⟨X,U,e,q⟩:=c;unfold lZ at e;split at e
 ·next hl=>
  cases e;exact⟨by rw[<-r.length];exact hl.1,q _ _ (um (M1 Y)) (uo Z Y r)⟩
 ·cases e
end
section
variable {X:Cx}{E:XD}{a b e:Expr}{m n:TM}{pos:Pos}{rest es:List Expr}{ms:aP->M (List D)}{t u:aP->M Bool}
theorem l9{op}(h:SE X E a m):SE X E (.BoolOp op [a] pos) m:=GG h
theorem kC(W:SE X E a m)(U:SE X E (.BoolOp .And (b::rest) pos) n):SE X E (.BoolOp .And (a::b::rest) pos) (fun ρ=>do let x<-m ρ;let c<-lG x;if c=b_ then n ρ else aC (.bl dV)):=by
 refine PE.imp (GH W U) fun σ H Q h=>?_;obtain⟨ι,S,ρ,rep,re,c⟩:=h;refine⟨ι,S,ρ,rep,re,aD (aq c) fun x Z S1 P e1 rep1 T v1 R=>?_⟩;obtain⟨k,rfl,rfl,Y⟩:=uq rep1 R T;refine⟨k,rfl,?_⟩;cases k with
 |true=>exact⟨Z,S1,ρ,rep1,re.later rep e1,Y⟩
 |false=>exact ao Y .refl rep1 _ (.bl dV)
theorem B5(Z:SE X E a m):SE X E (.UnaryOp .Not a pos) (fun ρ=>do let x<-m ρ;let c<-lG x;aC (.bl (!c))):=by
 refine PE.imp (GI Z) fun σ H Q h=>?_;obtain⟨ι,S,ρ,rep,re,c⟩:=h;refine⟨ι,S,ρ,rep,re,aD (aq c) fun x U S1 R e1 rep1 W v1 T=>?_⟩;obtain⟨k,rfl,rfl,Y⟩:=uq rep1 T W;exact⟨k,rfl,ao Y .refl rep1 _ (.bl _)⟩
theorem JE(T:SB X E c t)(W:SE X E a m)(U:SE X E b n):SE X E (.IfExp c a b pos) (fun ρ=>do let k<-t ρ;if k=b_ then m ρ else n ρ):=by
 refine PE.imp (BB T W U) fun σ H Q h=>?_;obtain⟨ι,S,ρ,rep,re,c⟩:=h;refine⟨ι,S,ρ,rep,re,aD (aq c) fun k Z S1 R e1 rep1 Y=>?_⟩;cases k with
 |true=>exact⟨Z,S1,ρ,rep1,re.later rep e1,Y⟩
 |false=>exact⟨Z,S1,ρ,rep1,re.later rep e1,Y⟩
theorem JF(h:Hh X.K E (fun ρ=>do let x<-m ρ;lG x) σ H Q):tB (tM X.K E m) σ H Q:=by
 obtain⟨ι,S,ρ,rep,re,c⟩:=h;refine⟨ι,S,ρ,rep,re,aD (aq c) fun x W S1 T e1 rep1 Y v1 U=>?_⟩;obtain⟨k,rfl,rfl,Z⟩:=qd rep1 U Y;exact⟨k,rfl,Z⟩
theorem fD(h:SE X E e m)(Z:∀whole,isTrue e X.env whole=(do let v<-whole;Sa e.pos;A' [v] (truthy v)):=by intro _;rfl):SB X E e (fun ρ=>do let x<-m ρ;lG x):=
 PT.imp (GC h Z) fun _ _ _ q=>JF q
theorem kD(h:jz X (j_ op) r)(W:vB X.K E f r)(Z:SE X E a m)(T:SE X E b n)(U:mh op b=false:=by first|exact vE _ (by decide) (by decide)|rfl):
  SB X E (.Compare a [op] [b] pos) (fun ρ=>do let z<-(do let x<-m ρ;let y<-n ρ;f x y);lG z):=
 PT.imp (Em h Z T U) fun σ H Q q=>by
  obtain⟨ι,S,ρ,rep,re,c⟩:=q;refine EC W (Q:=fun x O=>∃k,x= .bl k/\Q k O) ⟨ι,S,ρ,rep,re,aD (aq c) fun x P S1 L e1 rep1 R v1 N=>?_⟩;obtain⟨k,rfl,rfl,Y⟩:=qd rep1 N R;exact⟨k,rfl,Y⟩
theorem gy(h:SB X E a t):SB X E (.UnaryOp .Not a pos) (fun ρ=>do let c<-t ρ;aC (!c)):=by
 refine PT.imp (GF h) fun σ H Q q=>?_;obtain⟨ι,S,ρ,rep,re,c⟩:=q;exact⟨ι,S,ρ,rep,re,aD (aq c) fun k Y S1 W e1 rep1 Z=>ao Z .refl rep1⟩
theorem yM(h:SB X E a t):Hi X E (.BoolOp .And [a] pos) t:=Ec h
theorem ur(h:SB X E a t):Hi X E (.BoolOp .Or [a] pos) t:=GD h
theorem B6(W:SB X E a t)(U:Hi X E (.BoolOp .And (b::rest) pos) u):Hi X E (.BoolOp .And (a::b::rest) pos) (fun ρ=>do let c<-t ρ;if c=b_ then u ρ else aC dV):=by
 refine PW.imp (GE W U) fun σ H Q q=>?_;obtain⟨ι,S,ρ,rep,re,c⟩:=q;refine⟨ι,S,ρ,rep,re,aD (aq c) fun k Z S1 T e1 rep1 Y=>?_⟩;cases k with
 |true=>exact⟨Z,S1,ρ,rep1,re.later rep e1,Y⟩
 |false=>exact ao Y .refl rep1
theorem qe(W:SB X E a t)(U:Hi X E (.BoolOp .Or (b::rest) pos) u):Hi X E (.BoolOp .Or (a::b::rest) pos) (fun ρ=>do let c<-t ρ;if c=b_ then aC b_ else u ρ):=by
 refine PW.imp (Jc W U) fun σ H Q q=>?_;obtain⟨ι,S,ρ,rep,re,c⟩:=q;refine⟨ι,S,ρ,rep,re,aD (aq c) fun k Z S1 T e1 rep1 Y=>?_⟩;cases k with
 |false=>exact⟨Z,S1,ρ,rep1,re.later rep e1,Y⟩
 |true=>exact ao Y .refl rep1
theorem AA(h:Hi X E e t):SB X E e t:=PW.pt h
theorem ai:SA X E [] (fun _=>aC []):=by
 refine PA.imp ku fun σ H Q q=>?_;obtain⟨ι,S,ρ,rep,re,c⟩:=q;exact ao c .refl rep _ .nil
theorem af(W:SE X E e m)(R:SA X E es ms)(hs:ee (e::es) X.env=(dV,hS e X.env)::ee es X.env:=by rfl):SA X E (e::es) (fun ρ=>do let x<-m ρ;let xs<-ms ρ;aC (x::xs)):=by
 refine PA.imp (fN W R hs) fun σ H Q q=>?_;obtain⟨ι,S,ρ,rep,re,c⟩:=q;refine⟨ι,S,ρ,rep,re,aD (aq c) fun x Z S1 N e1 rep1 P v1 O=>?_⟩;refine⟨Z,S1,ρ,rep1,re.later rep e1,aD (aq P) fun xs Y S2 L e2 rep2 U vs T=>?_⟩;exact ao U .refl rep2 _ (.cons (O.later rep1 e2) T)
theorem dw{x1}(h:SA X E es ms):SE X E (.Tuple es x1 pos) (fun ρ=>do let ds<-ms ρ;bK ds):=by
 refine PE.imp (BO h) fun σ H Q q=>?_;obtain⟨ι,S,ρ,rep,re,c⟩:=q;refine⟨ι,S,ρ,rep,re,aD (aq c) fun x U S1 R e1 rep1 W vs T=>?_⟩;obtain⟨Z,Y⟩:=gx W rep1 T;exact⟨ME Z gX,Y⟩
theorem bt(h:SA X E es ms):SE X E (.List es pos) (fun ρ=>do let ds<-ms ρ;bD ds):=by
 refine PE.imp (G6 h) fun σ H Q q=>?_;obtain⟨ι,S,ρ,rep,re,c⟩:=q;refine⟨ι,S,ρ,rep,re,aD (aq c) fun x U S1 R e1 rep1 W vs T=>?_⟩;obtain⟨Z,Y⟩:=bJ W rep1 T;exact⟨ME Z gX,Y⟩
def lL(K:d_)(E:XD)(f:List D->M D)(r:List V->Hp->VK->Prop):Prop:=
 ∀ ι S H ds vs Q,Rep K ι H S->RelDs K ι H ds vs->cont K E (f ds) ι S H (lK K Q)->r vs H Q
theorem JG(W:lL X.K E f r)(h:tM X.K E (fun ρ=>do let ds<-ms ρ;f ds) σ H Q):Lk r (Lq X.K E ms) σ H Q:=by
 obtain⟨ι,S,ρ,rep,re,c⟩:=h;exact⟨ι,S,ρ,rep,re,aD (aq c) fun ds Z S1 Y e1 rep1 U vs T=>W Z S1 Y ds vs Q rep1 T U⟩
theorem jD{x:Str}{W:String}{f:List D->M D}{r:List V->Hp->VK->Prop}{p:Pos}(R:ef X (.builtin W) r)(S:lL X.K E f r)(Q:Gl X x)(O:X.mg x=none)(P:k8 x=ar (.builtin W))(T:SA X E (e::es) ms)
  (N:x≠"__name__":=by decide) (Z:(x==("__debug__":Str))=false:=by decide) (U:ee (e::es) X.env=(dV,hS e X.env)::ee es X.env:=by rfl) (Y:(pa pos (ee es X.env)).any (·.1)=false:=by rfl):
  SE X E (.Call (.Name x p) (e::es) [] pos) (fun ρ=>do let ds<-ms ρ;f ds):=
 PE.imp (ky R Q O P T N Z U Y) fun _ _ _ q=>JG S q
theorem sQ(R:ef X (.type T) r)(S:lL X.K E f r)(P:Gl X x)(O:X.mg x=none)(Q:k8 x=ar (.type T))(U:SA X E (e::es) ms)
  (N:x≠"__name__":=by decide) (Z:(x==("__debug__":Str))=false:=by decide) (W:ee (e::es) X.env=(dV,hS e X.env)::ee es X.env:=by rfl) (Y:(pa pos (ee es X.env)).any (·.1)=false:=by rfl):
  SE X E (.Call (.Name x p) (e::es) [] pos) (fun ρ=>do let ds<-ms ρ;f ds):=
 PE.imp (kZ R P O Q U N Z W Y) fun _ _ _ q=>JG S q
abbrev gQ:XD:=fun _ _ _ _=>False
def Mg(K:d_)(F:List D->M D):Sp:=fun vs H Q _=>∃ ι S ds,Rep K ι H S/\RelDs K ι H ds vs/\cont K gQ (F ds) ι S H (lK K Q)
def Ky(K:d_)(E:XD)(f:D->List D->M D)(r:V->List V->Hp->VK->Prop):Prop:=
 ∀ ι S H d ds v vs Q,Rep K ι H S->RelD K ι H d v->RelDs K ι H ds vs->cont K E (f d ds) ι S H (lK K Q)->r v vs H Q
end
theorem iH{K:d_}{E:XD}{U:Type}{c:M U}{ι Z:List dt}{S:aF}{H X:Hp}{Q:U->List dt->aF->Hp->Prop}(h:cont K E c ι S H Q)(e:Ext ι H Z X):cont K E c Z S X Q:=by
 obtain⟨r,T,q,k⟩:=h;exact⟨r,T,q,fun Y P R rep2=>k Y P (e.trans R) rep2⟩
section
variable {X:Cx}{E:XD}{st:ri}{sts:List ri}{m n:cV}{e:Expr}{me:TM}{t:aP->M Bool}{pos:Pos}{g:nO}
def AB(o:Out)(n:cV):M Out:=match o with
 | .nx ρ=>n ρ
 | .ret d=>aC (.ret d)
 | .bk ρ=>aC (.bk ρ)
 | .ct ρ=>aC (.ct ρ)
theorem bG:vN X E [] (fun ρ=>aC (.nx ρ)):=by
 refine rS.imp Ed fun T σ H h=>?_;obtain⟨ι,S,ρ,rep,re,c⟩:=h;exact ao c .refl rep σ re
theorem aA(R:SS X E st m)(Q:vN X E sts n):vN X E (st::sts) (fun ρ=>do let o<-m ρ;AB o n):=by
 refine rS.imp (vF R Q) fun T σ H h=>?_;obtain⟨ι,S,ρ,rep,re,c⟩:=h;refine⟨ι,S,ρ,rep,re,aD (aq c) fun o W S1 P e1 rep1 Z=>?_⟩;cases o with
 |nx ρ'=>exact fun U Y=>⟨W,S1,ρ',rep1,Y,Z⟩
 |ret d=>exact ao Z .refl rep1
 |bk ρ'=>exact ao Z .refl rep1
 |ct ρ'=>exact ao Z .refl rep1
theorem aN(Z:SS X E st m):vN X E [st] m:=by
 refine rS.imp (tY Z) fun T σ H h=>h
theorem dR(Z:SE X E e me)(hs:la e none pos.line X.env=aC false:=by rfl):SS X E (.Expr e pos) (fun ρ=>do let _<-me ρ;aC (.nx ρ)):=by
 refine PS.imp (Ee Z hs) fun T σ H h=>?_;obtain⟨ι,S,ρ,rep,re,c⟩:=h;refine⟨ι,S,ρ,rep,re,aD (aq c) fun d W S1 U e1 rep1 Y v r=>?_⟩;exact ao Y .refl rep1 σ (re.later rep e1)
theorem aY(Z:SE X E e me):SS X E (.Return (ar e) pos) (fun ρ=>do let d<-me ρ;aC (.ret d)):=by
 refine PS.imp (GJ Z) fun T σ H h=>?_;obtain⟨ι,S,ρ,rep,re,c⟩:=h;exact⟨ι,S,ρ,rep,re,aD (aq c) fun d W S1 U e1 rep1 Y=>ao Y .refl rep1⟩
theorem cw(R:SB X E e t)(W:vN X E a m)(U:vN X E b n):SS X E (.If e a b pos) (fun ρ=>do let c<-t ρ;if c=b_ then m ρ else n ρ):=by
 refine PS.imp (Jh R W U) fun T σ H h=>?_;obtain⟨ι,S,ρ,rep,re,c⟩:=h;refine⟨ι,S,ρ,rep,re,aD (aq c) fun k Z S1 Q e1 rep1 Y=>?_⟩;cases k with
 |true=>exact⟨Z,S1,ρ,rep1,re.later rep e1,Y⟩
 |false=>exact⟨Z,S1,ρ,rep1,re.later rep e1,Y⟩
theorem aZ(i:Nat)(W:X.N.Nodup)(hi:X.N[i]? =ar x:=by rfl)(Z:Loc X.env.scope x:=by first|exact Rx rfl|exact QL rfl)(Y:X.fn x=b_\/X.env.scope.names.lookup x=ar .local:=by first|exact .inl rfl|exact .inr rfl|assumption):
  SG X E (.Name x pos) (fun d ρ=>aC (ρ.set i (ar d))):=by
 refine PG.imp (Ef W hi Z Y) fun v σ H Q h=>?_;obtain⟨ι,S,ρ,d,rep,re,r,c⟩:=h;exact ao c .refl rep _ (re.set r i)
def Lr(K:d_)(E:XD)(m:List D->aP->M aP):GK:=fun vs σ H Q=>∃ ι S ρ ds,Rep K ι H S/\RelE K ι H ρ σ/\RelDs K ι H ds vs/\cont K E (m ds ρ) ι S H (fun ρ' ι' _ H'=>∀ σ',RelE K ι' H' ρ' σ'->Q σ' H')
def Kz(X:Cx)(E:XD)(ts:List Expr)(m:List D->aP->M aP):Prop:=D5 X ts (Lr X.K E m)
theorem D5.imp{X:Cx}{e:List Expr}{t t':GK}(h:D5 X e t)(k:∀v σ H Q,t' v σ H Q->t v σ H Q):D5 X e t':=fun pins s σ H v u Q I r hw=>h pins s σ H v u Q I r (k v σ H Q hw)
def ie:List D->aP->M aP:=fun ds ρ=>match ds with
 |[]=>aC ρ
 |_=>M.fail
def bS(g:nO)(gs:List D->aP->M aP):List D->aP->M aP:=fun ds ρ=>match ds with
 |d::r=>do let ρ1<-g d ρ;gs r ρ1
 |_=>M.fail
theorem ij:Kz X E [] ie:=by
 refine D5.imp Eg fun vs σ H Q h=>?_;obtain⟨ι,S,ρ,ds,rep,re,r,c⟩:=h;cases ds with
 |nil=>exact⟨r.nil_inv,ao c .refl rep σ re⟩
 |cons d ds=>exact(aj c).elim
theorem cg(R:SG X E e g)(P:Kz X E es gs)(hs:(p4 (e::es) X.env).map (·.2)=QK e X.env::(p4 es X.env).map (·.2):=by rfl):Kz X E (e::es) (bS g gs):=by
 refine D5.imp (BD R P hs) fun vs σ H Q h=>?_;obtain⟨ι,S,ρ,ds,rep,re,r,c⟩:=h;cases ds with
 |nil=>exact(aj c).elim
 |cons d ds=>
  obtain⟨v,ws,rfl,N,T⟩:=r.cons_inv;refine⟨v,ws,rfl,ι,S,ρ,d,rep,re,N,aD (aq c) fun W Y S1 L e1 rep1 O U Z=>?_⟩;exact⟨Y,S1,W,ds,rep1,Z,T.later rep e1,O⟩
def gR(n:Nat)(gs:List D->aP->M aP):nO:=fun d ρ=>match d with
 | .tup ds=>if ds.length=n then gs ds ρ else M.fail
 |_=>M.fail
theorem jO{es:List Expr}{k:Nat}{n:Nat}{Y:List D->aP->M aP}(R:X.calm=b_)(h:Kz X E es Y)(T:(p4 es X.env).length=n:=by rfl)(Z:(p4 es X.env).findIdx? (·.1)=none:=by rfl):
  SG X E (.Tuple es k pos) (gR n Y):=by
 refine PG.imp (GN R h T Z) fun v σ H Q q=>?_;obtain⟨ι,S,ρ,d,rep,re,r,c⟩:=q;cases d with
 |tup ds=>
  obtain⟨a,vs,rfl,U,W⟩:=r.tup_inv;dsimp only[gR]at c;split at c
  ·next hl=>exact⟨a,vs,rfl,lJ.of U,by rw[<-W.length];exact hl,ι,S,ρ,ds,rep,re,W,c⟩
  ·exact(aj c).elim
 |_=>exact(aj c).elim
theorem ma(Q:SE X E e me)(O:SG X E tg g)(hs:G_ [tg] e pos.line X.env=aC false:=by rfl)(W:H0 [tg] e X.env=aC none:=by rfl)
  (R:(p4 [tg] X.env).map (·.2)=[QK tg X.env]:=by rfl):SS X E (.Assign [tg] e pos) (fun ρ=>do let d<-me ρ;let ρ'<-g d ρ;aC (.nx ρ')):=by
 refine PS.imp (GQ Q O hs W R) fun T σ H h=>?_;obtain⟨ι,S,ρ,rep,re,c⟩:=h;refine⟨ι,S,ρ,rep,re,aD (aq c) fun d Z S1 N e1 rep1 P v r=>?_⟩;exact⟨Z,S1,ρ,d,rep1,re.later rep e1,r,aD (aq P) fun ρ' Y S2 L e2 rep2 U=>ao U .refl rep2⟩
theorem br(i:Nat)(W:X.N.Nodup)(U:SE X E e me)(hi:X.N[i]? =ar x:=by rfl)(Z:Loc X.env.scope x:=by first|exact Rx rfl|exact QL rfl)(hs:la e (ar (.Name x pos')) pos.line X.env=aC false:=by rfl)
  (Y:X.fn x=b_\/X.env.scope.names.lookup x=ar .local:=by first|exact .inl rfl|exact .inr rfl|assumption):SS X E (.Assign [.Name x pos'] e pos) (fun ρ=>do let d<-me ρ;aC (.nx (ρ.set i (ar d)))):=by
 refine PS.imp (BE W hi Z U hs Y) fun T σ H h=>?_;obtain⟨ι,S,ρ,rep,re,c⟩:=h;refine⟨ι,S,ρ,rep,re,aD (aq c) fun d Q S1 P e1 rep1 R v r=>?_⟩;exact ao R .refl rep1 _ ((re.later rep e1).set r i)
theorem Hl(i j:Nat){kt k2 pt2}(O:X.calm=b_)(G:X.N.Nodup)(R:SA X E [a,b] ms)(hi:X.N[i]? =ar x:=by rfl)(K:X.N[j]? =ar y:=by rfl)(Y:i≠j:=by decide)
  (W:X.env.scope.names.lookup x=ar .local:=by rfl) (F:X.env.scope.names.lookup y=ar .local:=by rfl)
  (U:H0 [.Tuple [.Name x px,.Name y py] kt pt] (.Tuple [a,b] k2 pt2) X.env=aC (ar [x,y]):=by rfl)
  (hs:G_ [.Tuple [.Name x px,.Name y py] kt pt] (.Tuple [a,b] k2 pt2) pos.line X.env=aC false:=by rfl):
  SS X E (.Assign [.Tuple [.Name x px,.Name y py] kt pt] (.Tuple [a,b] k2 pt2) pos) (fun ρ=>do let ds<-ms ρ;match ds with|[d1,d2]=>aC (.nx ((ρ.set i (ar d1)).set j (ar d2)))|_=>M.fail):=by
 refine PS.imp (GS O G hi K Y W F R U hs) fun T σ H h=>?_;obtain⟨ι,S,ρ,rep,re,c⟩:=h;refine⟨ι,S,ρ,rep,re,aD (aq c) fun ds C S1 B e1 rep1 Z vs r=>?_⟩
 match ds,r,Z with
 |[d1,d2],r,Z=>
  obtain⟨v1,ws,rfl,L,I⟩:=r.cons_inv;obtain⟨v2,P,rfl,Q,J⟩:=I.cons_inv;cases J.nil_inv;exact⟨v1,v2,rfl,ao Z .refl rep1 _ (((re.later rep e1).set L i).set Q j)⟩
 |[],r,Z=>exact(aj Z).elim
 |[d],r,Z=>exact(aj Z).elim
 |d1::d2::d3::r',r,Z=>exact(aj Z).elim
def Ls(K:d_)(E:XD)(f:D->D->D->M Unit)(r:GL):Prop:=
 ∀ ι S H d1 d2 d3 v1 v2 v3 Q,Rep K ι H S->RelD K ι H d1 v1->RelD K ι H d2 v2->RelD K ι H d3 v3->cont K E (f d1 d2 d3) ι S H (fun _ _ _ H'=>Q H')->r v1 v2 v3 H Q
def kE:D->D->D->M Unit:=fun o i v=>match o,i with
 | .lst k,.int j=>do
  let xs<-getL k
  match As xs.length j with
  |some at'=>do let _<-lZ k (xs.set at' v);aC ()
  |none=>M.fail
 |_,_=>M.fail
inductive Chk where
 |none|some (k:Nat)|two (k j:Nat) (xs ys:List D)
structure Iter where
 items:List D
 chk:Chk
def Iter.okS(it:Iter)(S:aF):Prop:=match it.chk with
 | .none=>True
 | .some k=>S[k]? = .some it.items
 | .two k j xs ys=>S[k]? = .some xs/\S[j]? = .some ys
open Classical in
def jm(it:Iter):M Unit:=fun S=>if it.okS S then ar (.ok (),S)else none
def kF(K:d_)(it:Iter)(J:It)(ι:List dt)(H:Hp):Prop:=
 ∀ ι2 H2 S2,ExtN ι H ι2 H2->Rep K ι2 H2 S2->it.okS S2->∀i,(∀d,it.items[i]? =ar d->J.go i H2/\∀x H3,J.yld i H2 x H3->Ext ι2 H2 ι2 H3/\Rep K ι2 H3 S2/\RelD K ι2 H3 d x)/\(it.items.length<=i->J.stop i H2)
def LV(K:d_)(E:XD)(mi:aP->M Iter):TI:=fun σ H R=>∃ ι S ρ,Rep K ι H S/\RelE K ι H ρ σ/\cont K E (mi ρ) ι S H (fun it ι' _ H'=>∀J,kF K it J ι' H'->R J H')
def SI(X:Cx)(E:XD)(tg iter:Expr)(mi:aP->M Iter):Prop:=PI X tg iter (LV X.K E mi)
def eL(it:Iter)(g:nO)(b:cV):List D->aP->M Out
 |[],ρ=>do jm it;aC (.nx ρ)
 |d::ds,ρ=>do
  jm it
  let ρ1<-g d ρ;let o<-b ρ1
  match o with
  | .nx ρ'=>eL it g b ds ρ'
  | .ct ρ'=>eL it g b ds ρ'
  | .bk ρ'=>aC (.nx ρ')
  | .ret r=>aC (.ret r)
theorem mW{K:d_}{ι:List dt}{S:aF}{H:Hp}{Y:Type}{it:Iter}{f:Unit->M Y}{Q:Y->List dt->aF->Hp->Prop}(h:cont K E (jm it>>=f) ι S H Q)(Z:Rep K ι H S):it.okS S/\cont K E (f ()) ι S H Q:=by
 obtain⟨r,U,e,k⟩:=aq h;unfold jm at e;split at e
 ·next ho=>cases e;exact⟨ho,k ι H .refl Z⟩
 ·cases e
theorem iI(hp:QZ (f_ X.prog X.w) X.A X.env X.xe)(hc:X.calm=b_)(hi:SI X E tg iter mi)(hg:SG X E tg g)(j:vN X E body b)
  (hs:∀x,n3 iter X.env x=aC x:=by intro _;rfl):SS X E (.For tg iter body [] pos) (fun ρ=>do let it<-mi ρ;eL it g b it.items ρ):=by
 refine PS.imp (GV hp hc hi hg j hs) fun T σ H h=>?_;obtain⟨ι,S,ρ,rep,re,c⟩:=h;refine⟨ι,S,ρ,rep,re,aD (aq c) fun it W S1 B e1 rep1 f J l=>?_⟩;refine⟨fun i n O U=>∃ ι2 S2 ρ2,n=it.items.length - i/\i<=it.items.length/\Ext W B ι2 U/\Rep X.K ι2 U S2/\RelE X.K ι2 U ρ2 O/\cont X.K E (eL it g b (it.items.drop i) ρ2) ι2 S2 U (Hj X.K T),⟨_,W,S1,ρ,rfl,ML _,.refl,rep1,re.later rep e1,f⟩,?_⟩;rintro i n O U ⟨ι2,S2,ρ2,hn,hi',e2,rep2,re2,c2⟩;by_cases hlt:i<it.items.length
 ·have hd:it.items.drop i=it.items[i]::it.items.drop (i+1):=P2 hlt;rw[hd]at c2;have N:cont X.K E (do jm it;let ρ1<-g it.items[i] ρ2;let o<-b ρ1;match o with| .nx ρ'=>eL it g b (it.items.drop (i+1)) ρ'| .ct ρ'=>eL it g b (it.items.drop (i+1)) ρ'| .bk ρ'=>aC (.nx ρ')| .ret r=>aC (.ret r)) ι2 S2 U (Hj X.K T):=c2
  obtain⟨ok,y⟩:=mW N rep2;obtain⟨v,b2⟩:=l ι2 U S2 e2.n rep2 ok i;obtain⟨go,yl⟩:=v it.items[i] (Mt hlt);refine .inr ⟨go,fun R Y=>∃ ι3 S3 ρ3,Ext W B ι3 Y/\Rep X.K ι3 Y S3/\RelE X.K ι3 Y ρ3 R/\cont X.K E (eL it g b (it.items.drop (i+1)) ρ3) ι3 S3 Y (Hj X.K T),?_,fun x a hy=>?_⟩
  ·rintro R Y ⟨ι3,S3,ρ3,L,rep3,re3,s⟩;exact⟨_,by omega,ι3,S3,ρ3,rfl,hlt,L,rep3,re3,s⟩
  ·obtain⟨L,rep3,rd⟩:=yl x a hy;refine⟨ι2,S2,ρ2,it.items[i],rep3,re2.later rep2 L,rd,aD (aq (iH y L)) fun u z k H4 e4 G s a5 C=>?_⟩;refine⟨z,k,u,G,C,aD (aq s) fun o Q p H5 e5 Z F=>?_⟩;have I:Ext W B Q H5:=e2.trans (L.trans (e4.trans e5));cases o with
   |nx ρ'=>exact fun q P=>⟨Q,p,ρ',I,Z,P,F⟩
   |ct ρ'=>exact fun q P=>⟨Q,p,ρ',I,Z,P,F⟩
   |bk ρ'=>exact ao F .refl Z
   |ret d=>exact ao F .refl Z
 ·have hd:it.items.drop i=[]:=List.drop_eq_nil_of_le (by omega)
  rw[hd]at c2;have N:cont X.K E (do jm it;aC (.nx ρ2)) ι2 S2 U (Hj X.K T):=c2
  obtain⟨ok,y⟩:=mW N rep2;exact .inl ⟨(l ι2 U S2 e2.n rep2 ok i).2 (by omega),ao y .refl rep2 O re2⟩
def kG(t:aP->M Bool)(b:cV):Nat->aP->M Out
 |0,_=>M.fail
 | k+1,ρ=>do
  let c<-t ρ
  if c=b_ then do
   let o<-b ρ
   match o with
   | .nx ρ'=>kG t b k ρ'
   | .ct ρ'=>kG t b k ρ'
   | .bk ρ'=>aC (.nx ρ')
   | .ret r=>aC (.ret r)
  else aC (.nx ρ)
theorem B7(k:Nat)(B:QZ (f_ X.prog X.w) X.A X.env X.xe)(z:SB X E e t)(C:vN X E body b):SS X E (.While e body [] pos) (fun ρ=>kG t b k ρ):=by
 refine PS.imp (BF B z C) fun T σ H h=>?_;obtain⟨ι,S,ρ,rep,re,c⟩:=h;refine⟨fun n U O=>∃ ι2 S2 ρ2,Rep X.K ι2 O S2/\RelE X.K ι2 O ρ2 U/\cont X.K E (kG t b n ρ2) ι2 S2 O (Hj X.K T),⟨k,ι,S,ρ,rep,re,c⟩,?_⟩;rintro n U O ⟨ι2,S2,ρ2,rep2,re2,c2⟩;cases n with
 |zero=>exact(aj c2).elim
 | succ n=>
  refine⟨ι2,S2,ρ2,rep2,re2,aD (aq c2) fun k N F v J rep3 I=>?_⟩;cases k with
  |false=>exact ao I .refl rep3 U (re2.later rep2 J)
  |true=>
   refine⟨fun W Y=>∃ ι2 S2 ρ2,Rep X.K ι2 Y S2/\RelE X.K ι2 Y ρ2 W/\cont X.K E (kG t b n ρ2) ι2 S2 Y (Hj X.K T),fun W Y h=>⟨n,Oj _,h⟩,?_⟩;refine⟨N,F,ρ2,rep3,re2.later rep2 J,aD (aq I) fun o Q G y x Z P=>?_⟩;cases o with
   |nx ρ'=>exact fun L R=>⟨Q,G,ρ',Z,R,P⟩
   |ct ρ'=>exact fun L R=>⟨Q,G,ρ',Z,R,P⟩
   |bk ρ'=>exact ao P .refl Z
   |ret d=>exact ao P .refl Z
end
def gW(H:Hp)(p:dt):Hp:=fun a=>if a=p then none else H a
theorem hide_ne{H:Hp}(h:a≠p):gW H p a=H a:=if_neg h
theorem mX:gW H p p=none:=if_pos rfl
theorem de{H:Hp}(h:gW H p a=ar o):a≠p/\H a=ar o:=by
 by_cases e:a=p
 ·rw[e,mX]at h;cases h
 ·rw[hide_ne e]at h;exact⟨e,h⟩
theorem B8{H:Hp}(h:H p=ar o):upd (gW H p) p o=H:=by
 funext a;by_cases e:a=p
 ·rw[e,aX,h]
 ·rw[aK e,hide_ne e]
theorem kH:gW (upd H p o) p=gW H p:=by
 funext a;by_cases e:a=p
 ·rw[e,mX,mX]
 ·rw[hide_ne e,hide_ne e,aK e]
theorem jP{H:Hp}(h:H p=none):gW H p=H:=by
 funext a;by_cases e:a=p
 ·rw[e,mX,h]
 ·rw[hide_ne e]
section
variable {K:d_}{ι ι':List dt}{H H':Hp}{S:aF}{p:dt}
mutual
theorem RelD.hide(Z:H p=ar (.lst ws)):∀{d:D} {v:V},RelD K ι H d v->RelD K ι (gW H p) d v
 |_,_,.non=>.non
 |_,_,.bl b=>.bl b
 |_,_,.int i=>.int i
 |_,_,.str x=>.str x
 |_,_,.tup h hs=>.tup (by rw[hide_ne (fun z=>by rw[z,Z]at h;cases h)];exact h) (RelDs.hide Z hs)
 |_,_,.lst h=>.lst h
 |_,_,.ro h hs=>.ro (h.imp (fun⟨o,h⟩=>⟨o,by rw[hide_ne (fun z=>by rw[z,Z]at h;cases h)];exact h⟩) fun z=>z) (RelDs.hide Z hs)
 |_,_,.emp h=>.emp (by rw[hide_ne (fun z=>by rw[z,Z]at h;cases h)];exact h)
 |_,_,.fn h hs=>.fn (by rw[hide_ne (fun z=>by rw[z,Z]at h;cases h)];exact h) (RelDs.hide Z hs)
 |_,_,.exc n h=>.exc n (by rw[hide_ne (fun z=>by rw[z,Z]at h;cases h)];exact h)
 |_,_,.excF n h h2 hn hs=>.excF n (by rw[hide_ne (fun z=>by rw[z,Z]at h;cases h)];exact h) (by rw[hide_ne (fun z=>by rw[z,Z]at h2;cases h2)];exact h2) hn (RelDs.hide Z hs)
 |_,_,.fz h hs=>.fz (by rw[hide_ne (fun z=>by rw[z,Z]at h;cases h)];exact h) (RelDs.hide Z hs)
theorem RelDs.hide(Z:H p=ar (.lst ws)):∀{ds:List D} {vs:List V},RelDs K ι H ds vs->RelDs K ι (gW H p) ds vs
 |_,_,.nil=>.nil
 |_,_,.cons h hs=>.cons (RelD.hide Z h) (RelDs.hide Z hs)
end
mutual
theorem RelD.unhide:∀{d:D} {v:V},RelD K ι (gW H p) d v->RelD K ι H d v
 |_,_,.non=>.non
 |_,_,.bl b=>.bl b
 |_,_,.int i=>.int i
 |_,_,.str x=>.str x
 |_,_,.tup h hs=>.tup (de h).2 (RelDs.unhide hs)
 |_,_,.lst h=>.lst h
 |_,_,.ro h hs=>.ro (h.imp (fun⟨o,h⟩=>⟨o,(de h).2⟩) fun z=>z) (RelDs.unhide hs)
 |_,_,.emp h=>.emp (de h).2
 |_,_,.fn h hs=>.fn (de h).2 (RelDs.unhide hs)
 |_,_,.exc n h=>.exc n (de h).2
 |_,_,.excF n h h2 hn hs=>.excF n (de h).2 (de h2).2 hn (RelDs.unhide hs)
 |_,_,.fz h hs=>.fz (de h).2 (RelDs.unhide hs)
theorem RelDs.unhide:∀{ds:List D} {vs:List V},RelDs K ι (gW H p) ds vs->RelDs K ι H ds vs
 |_,_,.nil=>.nil
 |_,_,.cons h hs=>.cons (RelD.unhide h) (RelDs.unhide hs)
end
theorem RelE.hide(Z:H p=ar (.lst ws)):∀{ρ:aP} {σ:St},RelE K ι H ρ σ->RelE K ι (gW H p) ρ σ
 |_,_,.nil=>.nil
 |_,_,.cons h t=>.cons (fun d z=>let ⟨v,e1,e2⟩:=h d z;⟨v,e1,e2.hide Z⟩) (RelE.hide Z t)
theorem RelE.unhide:∀{ρ:aP} {σ:St},RelE K ι (gW H p) ρ σ->RelE K ι H ρ σ
 |_,_,.nil=>.nil
 |_,_,.cons h t=>.cons (fun d z=>let ⟨v,e1,e2⟩:=h d z;⟨v,e1,e2.unhide⟩) (RelE.unhide t)
theorem Rep.hide(Z:H p=ar (.lst ws))(Y:p∉ι)(r:Rep K ι H S):Rep K ι (gW H p) S:=
 ⟨r.nd,r.len,fun k a xs e1 e2=>let ⟨vs,h1,h2⟩:=r.get k a xs e1 e2;⟨vs,by rw[hide_ne (fun z=>Y (by rw[<-z];exact M1 e1))];exact h1,h2.hide Z⟩,r.tab.mono fun b o h n=>by rw[hide_ne (fun z=>by subst z;rw[h]at Z;exact n ws (MS Z))];exact h⟩
theorem Rep.unhide(r:Rep K ι (gW H p) S):Rep K ι H S:=
 ⟨r.nd,r.len,fun k a xs e1 e2=>let ⟨vs,h1,h2⟩:=r.get k a xs e1 e2;⟨vs,(de h1).2,h2.unhide⟩,r.tab.mono fun b o h _=>(de h).2⟩
theorem Ext.hide(e:Ext ι H ι' H'):Ext ι (gW H p) ι' (gW H' p):=
 ⟨e.ids,fun a o h n t=>by
  obtain⟨X,U⟩:=de h;obtain⟨Z,Y⟩:=e.oth a o U n t;exact⟨by rw[hide_ne X];exact Z,Y⟩⟩
theorem Ext.unhide(e:Ext ι H ι' (gW H' p)):Ext ι H ι' H':=
 ⟨e.ids,fun a o h n t=>by
  obtain⟨Z,Y⟩:=e.oth a o h n t;exact⟨(de Z).2,Y⟩⟩
theorem nU{E:XD}{T:Type}{c:M T}{U:List V}{Q:T->List dt->aF->Hp->Prop}(h:cont K gQ c ι S (gW H p) Q)(P:H p=ar (.lst U))(R:p∉ι):
  cont K E c ι S H (fun a ι' Z H'=>H' p=ar (.lst U)/\p∉ι'/\Q a ι' Z (gW H' p)):=by
 obtain⟨r,Z,e,k⟩:=h;refine⟨r,Z,e,fun ι' H' x rep=>?_⟩;obtain⟨Y,X⟩:=x.oth p _ P R (by intro _ z;cases z)
 have:=k ι' (gW H' p) x.hide (rep.hide Y X);cases r with
 |ok a=>exact⟨Y,X,this⟩
 |ex y=>exact this.elim
end
def mj(js:List (Option Nat))(ρ:aP):aP:=js.map fun o=>o.bind fun j=>(ρ[j]?).join
theorem RelE.blk{K:d_}{ι:List dt}{H:Hp}{ρ:aP}{Y:St}(X:RelE K ι H ρ Y):∀js:List (Option Nat),RelE K ι H (mj js ρ) (uk js Y)
 |[]=>.nil
 |none::js=>.cons (fun d z=>by cases z) (RelE.blk X js)
 | some j::js=>.cons (fun d z=>by
   have Z:(ρ[j]?).join=ar d:=z;have:ρ[j]? =ar (ar d):=by
    cases q:ρ[j]? with
    |none=>rw[q]at Z;cases Z
    |some o=>rw[q]at Z;exact OG ar Z
   obtain⟨v,e1,e2⟩:=X.get this;refine⟨v,?_,e2⟩;show(Y[j]?).join=ar v;rw[e1];rfl) (RelE.blk X js)
def cR(it:Iter)(g:nO)(t:aP->M Bool)(m:TM):List D->aP->M (List D)
 |[],ρ=>do jm it;aC []
 | d::ds,ρ=>do
  jm it
  let ρ1<-g d ρ;let b<-t ρ1
  if b=b_ then do
   let y<-m ρ1;let ys<-cR it g t m ds ρ1
   aC (y::ys)
  else cR it g t m ds ρ1
def ik(it:Iter)(g:nO)(t:aP->M Bool)(m:TM)(ρ:aP):M (List D):=if it.items.length<=lim then cR it g t m it.items ρ else M.fail
def KB(X:Cx)(E:XD)(ifs:List Expr)(t:aP->M Bool):Prop:=IM X ifs (Hh X.K E t)
theorem gI:KB X E [] (fun _=>aC b_):=fun pins s σ H Q I h=>Ew pins s σ H Q I (by
 obtain⟨ι,S,ρ,rep,re,c⟩:=h;exact ao c .refl rep)
theorem jb(h:SB X E c t):KB X E [c] t:=Ey h
section
variable {X:Cx}{scope:Scope}{Nc:List Str}{js:List (Option Nat)}{elt tg iter:Expr}{ifs:List Expr}{pos:Pos}{mi:aP->M Iter}{g:nO}{t:aP->M Bool}{m:TM}
theorem gz{Y Z W:Type}(c:M Y)(f:Y->M Z)(h:Z->M W):((c>>=f)>>=h)=(c>>=fun a=>f a>>=h):=by
 funext S;show M.bnd (M.bnd c f) h S=M.bnd c (fun a=>M.bnd (f a) h) S;unfold M.bnd;cases c S with
 |none=>rfl
 |some r=>
  obtain⟨r,U⟩:=r;cases r<;>rfl
theorem au{Z Y:Type}(a:Z)(f:Z->M Y):(aC a>>=f)=f a:=rfl
theorem ED{Z Y:Type}{c:Prop} [Decidable c](x y:M Z)(f:Z->M Y):((if c then x else y)>>=f)=if c then x>>=f else y>>=f:=by split<;>rfl
theorem vO(h:tM X.K gQ (fun ρ=>do let it<-mi ρ;let ys<-ik it g t m (mj js ρ);bD ys) σ H Q):
  yL (LV X.K gQ mi) js (Kx X.K gQ g) (Hh X.K gQ t) (tM X.K gQ m) σ H Q:=by
 obtain⟨ι,S,ρ,rep,re,c⟩:=h;refine⟨ι,S,ρ,rep,re,aD (aq c) fun it W S1 G e1 rep1 o J d p C=>?_⟩;have l:it.items.length<=lim/\cont X.K gQ (cR it g t m it.items (mj js ρ)>>=fun ys=>bD ys) W S1 G (lK X.K Q):=by
  have U:cont X.K gQ ((if it.items.length<=lim then cR it g t m it.items (mj js ρ)else M.fail)>>=fun ys=>bD ys) W S1 G (lK X.K Q):=o;by_cases h:it.items.length<=lim
  ·rw[if_pos h]at U;exact⟨h,U⟩
  ·rw[if_neg h]at U;exact(aj (aq U)).elim
 obtain⟨hlen,o⟩:=l;have j:RelE X.K W G (mj js ρ) (uk js σ):=(re.later rep e1).blk js;refine⟨fun i n F Y=>∃ ι2 S2 ρ2 xs vs,n=it.items.length - i/\i<=it.items.length/\Ext W G ι2 (gW Y p)/\Rep X.K ι2 (gW Y p) S2/\RelE X.K ι2 (gW Y p) ρ2 F/\Y p=ar (.lst vs)/\p∉ι2/\RelDs X.K ι2 (gW Y p) xs vs/\xs.length<=i/\
  cont X.K gQ (cR it g t m (it.items.drop i) ρ2>>=fun ys=>bD (xs++ys)) ι2 S2 (gW Y p) (lK X.K Q),⟨_,W,S1,mj js ρ,[],[],rfl,ML _,?_,?_,?_,aX,rep1.free C,.nil,ML _,?_⟩,?_⟩
 ·rw[kH,jP C];exact .refl
 ·rw[kH,jP C];exact rep1
 ·rw[kH,jP C];exact j
 ·rw[kH,jP C];exact o
 rintro i n F Y ⟨ι2,S2,ρ2,xs,vs,hn,hi',e2,rep2,re2,hpc,hpn,rx,hlim,c2⟩;by_cases hlt:i<it.items.length
 ·have hd:it.items.drop i=it.items[i]::it.items.drop (i+1):=P2 hlt;rw[hd]at c2;have N:cont X.K gQ (jm it>>=fun _=>g it.items[i] ρ2>>=fun Z=>t Z>>=fun b=>if b=b_ then m Z>>=fun y=>cR it g t m (it.items.drop (i+1)) Z>>=fun ys=>bD (xs++y::ys)else cR it g t m (it.items.drop (i+1)) Z>>=fun ys=>bD (xs++ys)) ι2 S2 (gW Y p) (lK X.K Q):=by
   have:(cR it g t m (it.items[i]::it.items.drop (i+1)) ρ2>>=fun ys=>bD (xs++ys))=(jm it>>=fun _=>g it.items[i] ρ2>>=fun Z=>t Z>>=fun b=>if b=b_ then m Z>>=fun y=>cR it g t m (it.items.drop (i+1)) Z>>=fun ys=>bD (xs++y::ys)else cR it g t m (it.items.drop (i+1)) Z>>=fun ys=>bD (xs++ys)):=by
    show((jm it>>=fun _=>g it.items[i] ρ2>>=fun Z=>t Z>>=fun b=>if b=b_ then m Z>>=fun y=>cR it g t m (it.items.drop (i+1)) Z>>=fun ys=>aC (y::ys)else cR it g t m (it.items.drop (i+1)) Z)>>=fun ys=>bD (xs++ys))=_;simp only[gz,ED,au]
   rw[<-this];exact c2
  obtain⟨ok,u⟩:=mW N rep2;obtain⟨q,a5⟩:=d ι2 Y S2 e2.unhide.n rep2.unhide ok i;obtain⟨go,yl⟩:=q it.items[i] (Mt hlt);refine .inr ⟨go,fun B L=>∃ ι3 S3 ρ3 xs3 vs3,Ext W G ι3 (gW L p)/\Rep X.K ι3 (gW L p) S3/\RelE X.K ι3 (gW L p) ρ3 B/\L p=ar (.lst vs3)/\p∉ι3/\RelDs X.K ι3 (gW L p) xs3 vs3/\xs3.length<=i+1/\
   cont X.K gQ (cR it g t m (it.items.drop (i+1)) ρ3>>=fun ys=>bD (xs3++ys)) ι3 S3 (gW L p) (lK X.K Q),?_,fun x e hy=>?_⟩
  ·rintro B L ⟨ι3,S3,ρ3,xs3,vs3,h1,h2,h3,h4,h5,h6,h7,h8⟩;exact⟨_,by omega,ι3,S3,ρ3,xs3,vs3,rfl,hlt,h1,h2,h3,h4,h5,h6,h7,h8⟩
  ·obtain⟨r,rep3,rd⟩:=yl x e hy;obtain⟨f,_⟩:=r.oth p _ hpc hpn (by intro _ z;cases z)
   have A:Ext ι2 (gW Y p) ι2 (gW e p):=r.hide;have c4:=aq (iH u A);refine⟨ι2,S2,ρ2,it.items[i],rep3,re2.unhide.later rep2.unhide r,rd,aD (nU (E:=gQ) c4 f hpn) fun ρ4 ι4 S4 H4 e4 rep4 ⟨hp4,hn4,c5⟩ σ4 re4=>?_⟩;have k:Rep X.K ι4 (gW H4 p) S4:=rep4.hide hp4 hn4;have s:Ext ι2 (gW Y p) ι4 (gW H4 p):=A.trans e4.hide;refine⟨ι4,S4,ρ4,rep4,re4,aD (nU (E:=gQ) (aq c5) hp4 hn4) fun b ι5 S5 H5 e5 rep5 ⟨hp5,hn5,c6⟩=>?_⟩;have T:Rep X.K ι5 (gW H5 p) S5:=rep5.hide hp5 hn5;have I:Ext ι2 (gW Y p) ι5 (gW H5 p):=s.trans e5.hide;have P:RelE X.K ι5 H5 ρ4 σ4:=re4.later rep4 e5;cases b with
   |false=>
    have R:cont X.K gQ (cR it g t m (it.items.drop (i+1)) ρ4>>=fun ys=>bD (xs++ys)) ι5 S5 (gW H5 p) (lK X.K Q):=c6;exact⟨ι5,S5,ρ4,xs,vs,e2.trans I,T,P.hide hp5,hp5,hn5,rx.later rep2 I,by omega,R⟩
   |true=>
    have R:cont X.K gQ (m ρ4>>=fun y=>cR it g t m (it.items.drop (i+1)) ρ4>>=fun ys=>bD (xs++y::ys)) ι5 S5 (gW H5 p) (lK X.K Q):=c6;refine⟨ι5,S5,ρ4,rep5,P,aD (nU (E:=gQ) (aq R) hp5 hn5) fun y ι6 S6 H6 e6 rep6 ⟨hp6,hn6,c7⟩ yv ry=>?_⟩;have v:Ext ι2 (gW Y p) ι6 (gW H6 p):=I.trans e6.hide;have O:Rep X.K ι6 (gW H6 p) S6:=rep6.hide hp6 hn6;have w:=rx.later rep2 v;have a:vs.length<sizeLine:=by rw[<-w.length];exact Nat.lt_of_le_of_lt (by omega) Hk
    refine⟨vs,hp6,a,ι6,S6,ρ4,xs++[y],vs++[yv],?_⟩;rw[kH];refine⟨e2.trans v,O,(P.later rep5 e6).hide hp6,aX,hn6,w.append (.cons (ry.hide hp6) .nil),by simp;omega,by simpa using c7⟩
 ·have hd:it.items.drop i=[]:=List.drop_eq_nil_of_le (by omega)
  rw[hd]at c2;have N:cont X.K gQ (jm it>>=fun _=>bD (xs++[])) ι2 S2 (gW Y p) (lK X.K Q):=by
   have:(cR it g t m [] ρ2>>=fun ys=>bD (xs++ys))=(jm it>>=fun _=>bD (xs++[])):=by
    show((jm it>>=fun _=>aC [])>>=fun ys=>bD (xs++ys))=_;simp only[gz,au]
   rw[<-this];exact c2
  obtain⟨ok,u⟩:=mW N rep2;rw[M3]at u;refine .inl ⟨(d ι2 Y S2 e2.unhide.n rep2.unhide ok i).2 (by omega),?_⟩
  have:=(bJ u rep2 rx).2 p mX;rw[B8 hpc]at this;exact this
theorem dU(c:CompScope X scope Nc js)(Y:X.calm=b_)(hi:SI X gQ tg iter mi)
  (Z:∀C ex s H,SG (bX X scope Nc C ex s H) gQ tg g/\KB (bX X scope Nc C ex s H) gQ ifs t/\SE (bX X scope Nc C ex s H) gQ elt m)
  (hs:∀x,n3 iter X.env x=aC x:=by intro _;rfl):SE X gQ (.ListComp elt [⟨tg,iter,ifs,0⟩] scope pos) (fun ρ=>do let it<-mi ρ;let ys<-ik it g t m (mj js ρ);bD ys):=
 PE.imp (Ez (g:=Kx X.K gQ g) (tt:=Hh X.K gQ t) (te:=tM X.K gQ m) c Y hi Z hs) fun _ _ _ q=>vO q
theorem mn(i:Nat)(Q:X.N.Nodup)(c:CompScope X scope Nc js)(L:X.calm=b_)(hi:SI X gQ tg iter mi)
  (Y:∀C ex s H,SG (bX X scope Nc C ex s H) gQ tg g/\KB (bX X scope Nc C ex s H) gQ ifs t/\SE (bX X scope Nc C ex s H) gQ elt m)
  (Z:X.N[i]? =ar x:=by rfl) (U:Loc X.env.scope x:=by first|exact Rx rfl|exact QL rfl)
  (W:la (.ListComp elt [⟨tg,iter,ifs,0⟩] scope cpos) (ar (.Name x pos')) pos.line X.env=aC true:=by rfl)
  (R:X.fn x=b_\/X.env.scope.names.lookup x=ar .local:=by first|exact .inl rfl|exact .inr rfl|assumption)
  (hs:∀x,n3 iter X.env x=aC x:=by intro _;rfl):SS X gQ (.Assign [.Name x pos'] (.ListComp elt [⟨tg,iter,ifs,0⟩] scope cpos) pos)
   (fun ρ=>do let d<-(do let it<-mi ρ;let ys<-ik it g t m (mj js ρ);bD ys);aC (.nx (ρ.set i (ar d)))):=by
 refine PS.imp (xH (g:=Kx X.K gQ g) (tt:=Hh X.K gQ t) (te:=tM X.K gQ m) Q Z U c L hi Y W R hs) fun T σ H h=>?_;obtain⟨ι,S,ρ,rep,re,c⟩:=h;refine vO ⟨ι,S,ρ,rep,re,aD (aq c) fun d O S1 J e1 rep1 P v r=>?_⟩;exact ao P .refl rep1 _ ((re.later rep e1).set r i)
end
section
variable {P:eM}{w:fg}{K:d_}{mg:Str->Option a_}{base:gd}
def outD:Out->M D
 | .nx _=>aC .non
 | .ret d=>aC d
 |_=>M.fail
def qf(N n:Nat)(m:cV):List D->M D:=fun ds=>if ds.length=n then do let o<-m (ds.map ar++lu (N - n) none);outD o else M.fail
end
def r0(f:Int->Int->M D):D->D->M D
 | .int i,.int j=>f i j
 |_,_=>M.fail
theorem lb{K:d_}{E:XD}{g:Int->Int->V}{f:Int->Int->D}(T:∀ ι H i j,RelD K ι H (f i j) (g i j)):vB K E (r0 fun i j=>aC (f i j)) (D6 g):=by
 intro ι S H Y X v1 v2 Q rep U Z c;cases Y<;>cases X<;>first
  |exact(aj c).elim
  |exact⟨_,_,U.int_inv,Z.int_inv,ao c .refl rep _ (T _ _ _ _)⟩
theorem mY{K:d_}{E:XD}{C:Int->Int->Prop} [∀i j,Decidable (C i j)]{g:Int->Int->V}{f:Int->Int->D}(R:∀ ι H i j,RelD K ι H (f i j) (g i j)):vB K E (r0 fun i j=>if C i j then aC (f i j)else M.fail) (rI C g):=by
 intro ι S H X U v1 v2 Q rep T Y c;cases X<;>cases U<;>first
  |exact(aj c).elim
  | (next i j=>
    have Z:cont K E (if C i j then aC (f i j)else M.fail) ι S H (lK K Q):=c;by_cases h:C i j
    ·rw[if_pos h]at Z;exact⟨_,_,T.int_inv,Y.int_inv,h,ao Z .refl rep _ (R _ _ _ _)⟩
    ·rw[if_neg h]at Z;exact(aj Z).elim)
def i5:D->D->M D:=r0 fun i j=>aC (.int (i - j))
instance:∀i j,Decidable (xt i j):=fun i j=>inferInstanceAs (Decidable (_\/_))
instance:∀i j,Decidable (xr i j):=fun i j=>inferInstanceAs (Decidable (_/\_))
instance:∀i j,Decidable (BH i j):=fun i j=>inferInstanceAs (Decidable (_/\_))
def uu:D->D->M D:=r0 fun i j=>if xt i j then aC (.int (i*j))else M.fail
def jc:D->D->M D:=r0 fun i j=>if xr i j then aC (.int (i / j))else M.fail
def mq:D->D->M D:=r0 fun i j=>if 0<j then aC (.int (i % j))else M.fail
def vP:D->D->M D:=r0 fun i j=>if BH i j then aC (.int (i ^ j.toNat))else M.fail
def bI:D->D->M D
 | .int i,.int j=>aC (.int (i+j))
 | .tup xs,.tup ys=>bK (xs++ys)
 | .lst a,.lst b=>do let xs<-getL a;let ys<-getL b;bD (xs++ys)
 | .lst a,.fz ys=>do let xs<-getL a;bD (xs++ys)
 | .fz xs,.lst b=>do let ys<-getL b;bD (xs++ys)
 | .fz xs,.fz ys=>bD (xs++ys)
 |_,_=>M.fail
def Hm:D->D->M D:=r0 fun i j=>aC (.bl (decide (i<=j)))
def yN:D->D->M D:=r0 fun i j=>aC (.bl (decide (j<i)))
def Lu:D->D->M D:=r0 fun i j=>aC (.bl (decide (j<=i)))
section
variable {X:Cx}{E:XD}{a b e c:Expr}{m n l:TM}{pos:Pos}
theorem mr(Y:SE X E a m)(Z:SE X E b n):SE X E (.BinOp a .Sub b pos) (fun ρ=>do let x<-m ρ;let y<-n ρ;i5 x y):=sP GY (lb fun _ _ _ _=>.int _) Y Z
theorem qg(Y:SE X E a m)(Z:SE X E b n):SE X E (.BinOp a .Mult b pos) (fun ρ=>do let x<-m ρ;let y<-n ρ;uu x y):=sP GZ (mY fun _ _ _ _=>.int _) Y Z
theorem pF(Y:SE X E a m)(Z:SE X E b n):SE X E (.BinOp a .FloorDiv b pos) (fun ρ=>do let x<-m ρ;let y<-n ρ;jc x y):=sP Ei (mY fun _ _ _ _=>.int _) Y Z
theorem kI(Z:SE X E a m)(Y:SE X E b n):SE X E (.BinOp a .Mod b pos) (fun ρ=>do let x<-m ρ;let y<-n ρ;mq x y):=sP G0 (mY (C:=fun _ j=>0<j) fun _ _ _ _=>.int _) Z Y
theorem xJ(Y:SE X E a m)(Z:SE X E b n):SE X E (.BinOp a .Pow b pos) (fun ρ=>do let x<-m ρ;let y<-n ρ;vP x y):=sP G1 (mY fun _ _ _ _=>.int _) Y Z
theorem B9:jz X (t8 .Add) (fun x y H Q=>∃a b ys,x= .ref a/\y= .ref b/\lJ X.K H a []/\lJ X.K H b ys/\Q (.ref b) H):=by
 intro pins s σ H x y v u Q I L B h;obtain⟨a,b,ys,rfl,rfl,O,F,q⟩:=h;cases L;cases B;obtain⟨its,C,N,_⟩:=I.tuple O;obtain⟨Y,z,J,_⟩:=I.tuple F;cases C;obtain⟨⟨cls,dd,data,A⟩,R,S,n,hd⟩:=id N;obtain⟨⟨P,T,data2,U⟩,Z,W,G,hd2⟩:=id J;simp only at S hd W hd2;subst S hd W hd2;exact Rm ⟨_,R,rfl⟩ ⟨_,Z,rfl⟩ Qx Q8 O4 OY (OU _ _)
  (tuple_addW0 a b #[] Y.toArray n G dd T A U (by simp)) ⟨R,Z,⟨.ref b,H,I,rfl,q⟩⟩
theorem Inv.lstR{X:Cx}{Z:List (dt×Obj)}{Y:L2.St}{H:Hp}{s:c_}{l:dt}{xs:List V}(I:L2.Inv X Z Y H s)(W:Rd H l (.lst xs)):xs.length<=sizeLine/\∃(its:List a_) (n:Nat),bw xs its/\xs.length=its.length/\s.heap.get? l=ar {cls:=.type "list",data:=.seq its.toArray n}:=by
 obtain⟨z,its,n,r,e⟩:=W.ok I.hok;exact⟨z,its,n,r,r.length,e⟩
def JH:R2:=fun x y H Q=>∃l b xs zs,x= .ref l/\y= .ref b/\Rd H l (.lst xs)/\Rd H b (.lst zs)/\xs.length+zs.length<=sizeLine/\∀p,H p=none->Q (.ref p) (upd H p (.lst (xs++zs)))
theorem EE:jz X (t8 .Add) JH:=by
 intro pins s σ H x y v u Q I U O h;obtain⟨l,b,xs,zs,rfl,rfl,R,W,J,q⟩:=h;cases U;cases O;obtain⟨z,its,n,r,N,e⟩:=Inv.lstR I R;obtain⟨L,Z,K,S,T,e2⟩:=Inv.lstR I W;refine PySem.P.add_list e e2 ?_ (by rw[MB,MB];omega)
 have Y:its.toArray++Z.toArray=(its++Z).toArray:=by simp
 rw[Y];exact⟨.ref _,_,I.lnew (t':=s.toks) (r.append S) (by rw[Mu];omega),rfl,q _ I.fresh⟩
theorem bW(F:SE X E a m)(C:SE X E b n):SE X E (.BinOp a .Add b pos) (fun ρ=>do let x<-m ρ;let y<-n ρ;bI x y):=by
 refine sP (GX.or (Er.or (B9.or EE))) ?_ F C;intro ι S H B A v1 v2 Q rep P O c;cases B<;>cases A<;>first
  |exact(aj c).elim
  |exact .inl ⟨_,_,P.int_inv,O.int_inv,ao c .refl rep _ (.int _)⟩
  | (next xs ys=>
    obtain⟨p,vs,rfl,U,J⟩:=P.tup_inv;obtain⟨q,ws,rfl,W,I⟩:=O.tup_inv;obtain⟨Y,T⟩:=gx c rep (J.append I);rw[Mu]at Y;cases vs with
    |nil=>
     refine .inr (.inr (.inl ⟨p,q,ws,rfl,rfl,.of U,.of W,?_⟩));exact jN c rep W (J.append I)
    |cons v vs=>
     refine .inr (.inl ⟨p,q,v::vs,ws,rfl,rfl,.of U,.of W,by simp,ME Y gX,fun z=>?_,fun _=>T⟩)
     subst z;have:=J.append I;rw[M3]at this;exact jN c rep U this)
  | (next j k=>
    obtain⟨p,rfl,U⟩:=P.lst_inv;obtain⟨q,rfl,W⟩:=O.lst_inv;obtain⟨ds,vs,_,K,R,L⟩:=bH c rep U;obtain⟨es,ws,_,hw,Z,N⟩:=bH L rep W;obtain⟨Y,T⟩:=bJ N rep (R.append Z);rw[Mu]at Y;exact .inr (.inr (.inr ⟨p,q,vs,ws,rfl,rfl,.inl K,.inl hw,ME Y gX,T⟩)))
  | (next j ys=>
    obtain⟨p,rfl,U⟩:=P.lst_inv;obtain⟨q,o2,ws,rfl,W,Z⟩:=O.fz_inv;obtain⟨ds,vs,_,K,R,L⟩:=bH c rep U;obtain⟨Y,T⟩:=bJ L rep (R.append Z);rw[Mu]at Y;exact .inr (.inr (.inr ⟨p,q,vs,ws,rfl,rfl,.inl K,.inr ⟨o2,W⟩,ME Y gX,T⟩)))
  | (next xs k=>
    obtain⟨p,G,vs,rfl,U,R⟩:=P.fz_inv;obtain⟨q,rfl,W⟩:=O.lst_inv;obtain⟨es,ws,_,hw,Z,N⟩:=bH c rep W;obtain⟨Y,T⟩:=bJ N rep (R.append Z);rw[Mu]at Y;exact .inr (.inr (.inr ⟨p,q,vs,ws,rfl,rfl,.inr ⟨G,U⟩,.inl hw,ME Y gX,T⟩)))
  | (next xs ys=>
    obtain⟨p,G,vs,rfl,U,R⟩:=P.fz_inv;obtain⟨q,o2,ws,rfl,W,Z⟩:=O.fz_inv;obtain⟨Y,T⟩:=bJ c rep (R.append Z);rw[Mu]at Y;exact .inr (.inr (.inr ⟨p,q,vs,ws,rfl,rfl,.inr ⟨G,U⟩,.inr ⟨o2,W⟩,ME Y gX,T⟩)))
theorem yO(Y:SE X E a m)(Z:SE X E b n):SB X E (.Compare a [.Gt] [b] pos) (fun ρ=>do let z<-(do let x<-m ρ;let y<-n ρ;yN x y);lG z):=kD Jr (lb fun _ _ _ _=>.bl _) Y Z
theorem JI(Y:SE X E a m)(Z:SE X E b n):SB X E (.Compare a [.GtE] [b] pos) (fun ρ=>do let z<-(do let x<-m ρ;let y<-n ρ;Lu x y);lG z):=kD Js (lb fun _ _ _ _=>.bl _) Y Z
def intsOf:List D->Option (List Int)
 |[]=>ar []
 | .int i::r=>(intsOf r).map (i::·)
 |_=>none
theorem gC{K:d_}{ι:List dt}{H:Hp}:∀{ds:List D} {vs:List V} {ns:List Int},RelDs K ι H ds vs->intsOf ds=ar ns->vs=ns.map V.int
 |[],vs,ns,h,e=>by cases e;rw[h.nil_inv];rfl
 | .int i::ds,vs,ns,h,e=>by
  obtain⟨v,ws,rfl,Z,Y⟩:=h.cons_inv;cases q:intsOf ds with
  |none=>simp[intsOf,q]at e
  |some ks=>
   simp[intsOf,q]at e;subst e;rw[Z.int_inv,gC Y q];rfl
 | .non::_,_,_,_,e=>by cases e
 | .bl _::_,_,_,_,e=>by cases e
 | .str _::_,_,_,_,e=>by cases e
 | .tup _::_,_,_,_,e=>by cases e
 | .lst _::_,_,_,_,e=>by cases e
 | .ro _::_,_,_,_,e=>by cases e
 | .fz _::_,_,_,_,e=>by cases e
 | .emp::_,_,_,_,e=>by cases e
def Bw:D->D->M D
 | .int i,.int j=>aC (.bl (decide (i<j)))
 | .tup xs,.tup ys=>match intsOf xs,intsOf ys with
  |some ns,ar ms=>aC (.bl (HT.lexLt ns ms))
  |_,_=>M.fail
 |_,_=>M.fail
theorem xK:vB X.K E Bw (fun x y H Q=>D6 (fun i j=>.bl (decide (i<j))) x y H Q\/Jw X.K x y H Q):=by
 intro ι S H U P v1 v2 Q rep Y Z c;cases U<;>cases P<;>first
  |exact(aj c).elim
  |exact .inl ⟨_,_,Y.int_inv,Z.int_inv,ao c .refl rep _ (.bl _)⟩
  | (next xs ys=>
    obtain⟨p,vs,rfl,T,O⟩:=Y.tup_inv;obtain⟨q,ws,rfl,R,W⟩:=Z.tup_inv;dsimp only[Bw]at c;split at c
    ·next ns ms e1 e2=>
     refine .inr ⟨p,q,ns,ms,rfl,rfl,.of (by rw[<-gC O e1];exact T),.of (by rw[<-gC W e2];exact R),ao c .refl rep _ (.bl _)⟩
    ·exact(aj c).elim)
theorem F4(W:X.A.units<u_)(Y:SE X E a m)(Z:SE X E b n):SE X E (.Compare a [.Lt] [b] pos) (fun ρ=>do let x<-m ρ;let y<-n ρ;Bw x y):=xI (BJ.or (xB W)) xK Y Z
theorem F5(W:X.A.units<u_)(Y:SE X E a m)(Z:SE X E b n):SB X E (.Compare a [.Lt] [b] pos) (fun ρ=>do let z<-(do let x<-m ρ;let y<-n ρ;Bw x y);lG z):=kD (BJ.or (xB W)) xK Y Z
theorem vQ(L:vB X.K E f r)(u:vB X.K E g r')
  (h:tM X.K E (fun ρ=>do let x<-m ρ;let y<-n ρ;let z<-f x y;let k<-lG z;if k=b_ then do let w<-l ρ;g y w else aC (.bl dV)) σ H Q):xu r r' (tM X.K E m) (tM X.K E n) (tM X.K E l) σ H Q:=by
 obtain⟨ι,S,ρ,rep,re,c⟩:=h;refine⟨ι,S,ρ,rep,re,aD (aq c) fun x T S1 p e1 rep1 B v1 v=>?_⟩;refine⟨T,S1,ρ,rep1,re.later rep e1,aD (aq B) fun y Y S2 A e2 rep2 N v2 P=>?_⟩;refine L Y S2 A x y v1 v2 _ rep2 (v.later rep1 e2) P (aD (aq N) fun z W G o R rep3 C j I=>?_);obtain⟨k,rfl,rfl,O⟩:=uq rep3 I C;refine⟨k,rfl,?_⟩;cases k with
 |true=>
  exact⟨W,G,ρ,rep3,((re.later rep e1).later rep1 e2).later rep2 R,aD (aq O) fun w U F s q Z J v4 t=>u U F s y w v2 v4 Q Z ((P.later rep2 R).later rep3 q) t J⟩
 |false=>exact ao O .refl rep3 _ (.bl dV)
theorem Ca(h:jz X (j_ op) r)(h':jz X (j_ op') r')(Y:vB X.K E f r)(U:vB X.K E g r')(Z:SE X E a m)(W:SE X E b n)(T:SE X E c l)
  (S:Rv [op,op'] [b,c]=false:=by with_unfolding_all rfl):
  SE X E (.Compare a [op,op'] [b,c] pos) (fun ρ=>do let x<-m ρ;let y<-n ρ;let z<-f x y;let k<-lG z;if k=b_ then do let w<-l ρ;g y w else aC (.bl dV)):=
 PE.imp (BM h h' Z W T S) fun _ _ _ q=>vQ Y U q
theorem Cb(h:jz X (j_ op) r)(h':jz X (j_ op') r')(W:vB X.K E f r)(N:vB X.K E g r')(Z:SE X E a m)(T:SE X E b n)(O:SE X E c l)
  (U:Rv [op,op'] [b,c]=false:=by with_unfolding_all rfl):
  SB X E (.Compare a [op,op'] [b,c] pos) (fun ρ=>do let v<-(do let x<-m ρ;let y<-n ρ;let z<-f x y;let k<-lG z;if k=b_ then do let w<-l ρ;g y w else aC (.bl dV));lG v):=
 PT.imp (BN h h' Z T O U) fun σ H Q q=>by
  obtain⟨ι,S,ρ,rep,re,c⟩:=q;refine vQ W N (Q:=fun x P=>∃k,x= .bl k/\Q k P) ⟨ι,S,ρ,rep,re,aD (aq c) fun x L S1 I e1 rep1 R v1 J=>?_⟩;obtain⟨k,rfl,rfl,Y⟩:=qd rep1 J R;exact⟨k,rfl,Y⟩
def b7:D->D->M D
 | .lst k,.int i=>do
  let xs<-getL k
  match k9 xs i with
  |some d=>aC d
  |none=>M.fail
 | .tup xs,.int i=>match k9 xs i with
  |some d=>aC d
  |none=>M.fail
 | .ro xs,.int i=>match k9 xs i with
  |some d=>aC d
  |none=>M.fail
 | .fz xs,.int i=>match k9 xs i with
  |some d=>aC d
  |none=>M.fail
 |_,_=>M.fail
theorem pG{K:d_}{ι:List dt}{H:Hp}{ds:List D}{vs:List V}{i:Int}{d:D}(h:RelDs K ι H ds vs)(e:k9 ds i=ar d):∃v,k9 vs i=ar v/\RelD K ι H d v:=by
 unfold k9 at e⊢;rw[h.length]at e;cases q:As vs.length i with
 |none=>rw[q]at e;cases e
 |some j=>
  rw[q]at e;exact h.get' e
theorem Hn:vB X.K E b7 (LR X.K):=by
 intro ι S H R P v1 v2 Q rep T W c;cases R<;>cases P<;>first
  |exact(aj c).elim
  | (next k i=>
    obtain⟨p,rfl,Z⟩:=T.lst_inv;obtain⟨ds,vs,_,O,Y,U⟩:=bH c rep Z;cases q:k9 ds i with
    |none=>rw[q]at U;exact(aj U).elim
    |some d=>
     rw[q]at U;obtain⟨v,e1,e2⟩:=pG Y q;exact .inl ⟨p,vs,i,v,rfl,W.int_inv,.of O,e1,ao U .refl rep _ e2⟩)
  | (next ds i=>
    obtain⟨p,vs,rfl,Z,Y⟩:=T.tup_inv;dsimp only[b7]at c;cases q:k9 ds i with
    |none=>rw[q]at c;exact(aj c).elim
    |some d=>
     rw[q]at c;obtain⟨v,e1,e2⟩:=pG Y q;exact .inr (.inl ⟨p,vs,i,v,rfl,W.int_inv,.of Z,e1,ao c .refl rep _ e2⟩))
  | (next ds i=>
    obtain⟨p,vs,rfl,Z,Y⟩:=T.ro_inv;dsimp only[b7]at c;cases q:k9 ds i with
    |none=>rw[q]at c;exact(aj c).elim
    |some d=>
     rw[q]at c;obtain⟨v,e1,e2⟩:=pG Y q;exact .inl ⟨p,vs,i,v,rfl,W.int_inv,Z.sq,e1,ao c .refl rep _ e2⟩)
  | (next ds i=>
    obtain⟨p,o,vs,rfl,Z,Y⟩:=T.fz_inv;dsimp only[b7]at c;cases q:k9 ds i with
    |none=>rw[q]at c;exact(aj c).elim
    |some d=>
     rw[q]at c;obtain⟨v,e1,e2⟩:=pG Y q;exact .inl ⟨p,vs,i,v,rfl,W.int_inv,.inl (.inr ⟨o,Z⟩),e1,ao c .refl rep _ e2⟩)
theorem aU(Z:SE X E a m)(Y:SE X E b n)(hs:ua b:=by intro _ _;rfl):SE X E (.Subscript a b pos) (fun ρ=>do let x<-m ρ;let y<-n ρ;b7 x y):=JD Hd Hn Z Y hs
end
mutual
inductive ReadsV(H:Hp):V->pb->Prop where
 |non:ReadsV H .non .none
 |bl (b:Bool):ReadsV H (.bl b) (.bool b)
 |int (i:Int):ReadsV H (.int i) (.int i)
 |str (x:Str):ReadsV H (.str x) (.str x)
 |lst {a:dt} {vs:List V} {ps:List pb}:Rd H a (.lst vs)->ReadsVs H vs ps->ReadsV H (.ref a) (.list ps)
 |tup {a:dt} {vs:List V} {ps:List pb}:H a=ar (.tup vs)->ReadsVs H vs ps->ReadsV H (.ref a) (.tuple ps)
inductive ReadsVs(H:Hp):List V->List pb->Prop where
 |nil:ReadsVs H [] []
 |cons {v:V} {p:pb} {vs:List V} {ps:List pb}:ReadsV H v p->ReadsVs H vs ps->ReadsVs H (v::vs) (p::ps)
end
mutual
theorem ReadsV.heap(Z:gG P w H h):∀{v:V} {p:pb},ReadsV H v p->∀{u:a_},RelV v u->∃as,Reads h u p as
 |_,_,.non,u,r=>by cases (show u=hO from r);exact⟨_,.none⟩
 |_,_,.bl b,u,r=>by cases (show u=t6 b from r);exact⟨_,.bool b⟩
 |_,_,.int i,u,r=>by obtain⟨t,rfl⟩:=(show ∃t,u=pd i t from r);exact⟨_,.int i t⟩
 |_,_,.str x,u,r=>by obtain⟨t,rfl⟩:=(show ∃t,u=J' x t from r);exact⟨_,.str x t⟩
 |_,_,@ReadsV.lst _ a vs ps h1 h2,u,r=>by
  cases (show u=ey a from r);obtain⟨_,its,n,Y,e⟩:=(show bB P w H h a (.lst vs)from h1.ok Z);obtain⟨as,q⟩:=ReadsVs.heap Z h2 Y;exact⟨_,.list e rfl rfl (by simpa using q)⟩
 |_,_,@ReadsV.tup _ a vs ps h1 h2,u,r=>by
  cases (show u=ey a from r);obtain⟨_,its,Y,o,e,c,n,d⟩:=(show bB P w H h a (.tup vs)from Z a _ h1);obtain⟨as,q⟩:=ReadsVs.heap Z h2 Y;exact⟨_,.tuple e c d (by simpa using q)⟩
theorem ReadsVs.heap(Z:gG P w H h):∀{vs:List V} {ps:List pb},ReadsVs H vs ps->∀{us:List a_},bw vs us->∃as,ReadsAll h us ps as
 |_,_,.nil,us,r=>by cases r;exact⟨_,.nil⟩
 | _,_,.cons h1 h2,us,r=>by
  cases r with
  |cons r1 r2=>
   obtain⟨as,q⟩:=ReadsV.heap Z h1 r1;obtain⟨bs,Y⟩:=ReadsVs.heap Z h2 r2;exact⟨_,.cons q Y⟩
end
def mapP(f:D->Option pb):List D->Option (List pb)
 |[]=>ar []
 |d::ds=>match f d,mapP f ds with
  |some p,ar ps=>ar (p::ps)
  |_,_=>none
def gS(S:aF):Nat->D->Option pb
 |_,.non=>ar .none
 |_,.bl b=>ar (.bool b)
 |_,.int i=>ar (.int i)
 |_,.str x=>if PyData.strOk x=b_ then ar (.str x)else none
 |n+1,.tup ds=>(mapP (gS S n) ds).map .tuple
 |n+1,.lst k=>(S[k]?).bind fun xs=>(mapP (gS S n) xs).map .list
 |n+1,.fz ds=>(mapP (gS S n) ds).map .list
 |_,_=>none
section
variable {K:d_}{ι:List dt}{S:aF}{H:Hp}
theorem mZ{f:D->Option pb}(Z:∀d p v,f d=ar p->RelD K ι H d v->ReadsV H v p/\p.canLay0=b_/\p.depth<=n):
  ∀{ds:List D} {ps:List pb} {vs:List V},mapP f ds=ar ps->RelDs K ι H ds vs->ReadsVs H vs ps/\PyData.canLayAll0 ps=b_/\n_ ps<=n
 |[],ps,vs,e,r=>by
  cases e;rw[r.nil_inv];exact⟨.nil,rfl,ML _⟩
 | d ::ds,ps,vs,e,r=>by
  obtain⟨v,ws,rfl,X,U⟩:=r.cons_inv;unfold mapP at e;cases q:f d with
  |none=>rw[q]at e;cases e
  | some p=>
   rw[q]at e;cases q2:mapP f ds with
   |none=>rw[q2]at e;cases e
   | some ps'=>
    rw[q2]at e;cases e;obtain⟨T,R,Y⟩:=Z d p v q X;obtain⟨k1,k2,k3⟩:=mZ Z q2 U;refine⟨.cons T k1,?_,?_⟩
    ·show(PyData.canLay0 p && PyData.canLayAll0 ps')=b_;rw[R,k2];rfl
    ·show max p.depth (n_ ps')<=n;exact Nat.max_le.mpr ⟨Y,k3⟩
theorem pH(X:Rep K ι H S):∀(n:Nat) (d:D) (p:pb) (v:V),gS S n d=ar p->RelD K ι H d v->ReadsV H v p/\p.canLay0=b_/\p.depth<=n:=by
 intro n
 induction n with
 | zero=>
  intro d p v e r;cases d with
  |non=>cases e;rw[r.non_inv];exact⟨.non,rfl,Ms _⟩
  |bl b=>cases e;rw[r.bl_inv];exact⟨.bl b,rfl,Ms _⟩
  |int i=>cases e;rw[r.int_inv];exact⟨.int i,rfl,Ms _⟩
  |str x=>
   unfold gS at e;split at e
   ·next hs=>cases e;rw[r.str_inv];exact⟨.str x,hs,Ms _⟩
   ·cases e
  |_=>cases e
 | succ n ih=>
  intro d p v e r;cases d with
  |non=>cases e;rw[r.non_inv];exact⟨.non,rfl,ML _⟩
  |bl b=>cases e;rw[r.bl_inv];exact⟨.bl b,rfl,ML _⟩
  |int i=>cases e;rw[r.int_inv];exact⟨.int i,rfl,ML _⟩
  |str x=>
   unfold gS at e;split at e
   ·next hs=>cases e;rw[r.str_inv];exact⟨.str x,hs,ML _⟩
   ·cases e
  | tup ds=>
   obtain⟨a,vs,rfl,Z,Y⟩:=r.tup_inv;unfold gS at e;cases q:mapP (gS S n) ds with
   |none=>rw[q]at e;cases e
   |some ps=>
    rw[q]at e;cases e;obtain⟨k1,k2,k3⟩:=mZ ih q Y;exact⟨.tup Z k1,k2,OP k3⟩
  | lst k=>
   obtain⟨a,rfl,Z⟩:=r.lst_inv;unfold gS at e;cases z:S[k]? with
   |none=>rw[z]at e;cases e
   | some xs=>
    rw[z]at e;obtain⟨vs,U,Y⟩:=X.get k a xs Z z;cases q:mapP (gS S n) xs with
    |none=>simp[q]at e
    |some ps=>
     simp[q]at e;subst e;obtain⟨k1,k2,k3⟩:=mZ ih q Y;exact⟨.lst (.inl U) k1,k2,OP k3⟩
  |ro ds=>cases e
  | fz ds=>
   obtain⟨a,o,vs,rfl,Z,Y⟩:=r.fz_inv;unfold gS at e;cases q:mapP (gS S n) ds with
   |none=>rw[q]at e;cases e
   |some ps=>
    rw[q]at e;cases e;obtain⟨k1,k2,k3⟩:=mZ ih q Y;exact⟨.lst (.inr ⟨o,Z⟩) k1,k2,OP k3⟩
  |emp=>cases e
  |fn a c q ds vs=>cases e
  |exc x ds=>cases e
end
def IP(f:pb->pb->Bool):D->D->M D:=fun a b S=>match gS S 60 a,gS S 60 b with
 |some p,ar q=>ar (.ok (.bl (f p q)),S)
 |_,_=>none
def il:D->D->M D:=IP gg
def fV:D->D->M D:=IP fun p q=> !gg p q
def Lv(f:Bool->Bool):pb->pb->Option Bool
 |d,.list xs=>ar (f (xs.any fun y=>gg y d))
 |d,.tuple xs=>ar (f (xs.any fun y=>gg y d))
 |_,_=>none
def IQ(f:Bool->Bool):D->D->M D:=fun a b S=>match gS S 60 a,gS S 60 b with
 |some p,ar q=>match Lv f p q with
  |some r=>ar (.ok (.bl r),S)
  |none=>none
 |_,_=>none
def inD:D->D->M D:=IQ id
def qh:D->D->M D:=IQ (!·)
section
variable {X:Cx}{E:XD}{a b e:Expr}{m n:TM}{pos:Pos}
def Ho(f:pb->pb->Bool):R2:=fun x y H Q=>∃p q,(ReadsV H x p/\p.canLay0=b_/\p.depth<=60)/\(ReadsV H y q/\q.canLay0=b_/\q.depth<=60)/\Q (.bl (f p q)) H
theorem lg{p:pb}(h:p.canLay0=b_)(Z:p.depth<=60):SeqAt.shaped p=true:=by
 unfold SeqAt.shaped;rw[h,NF];exact MF (by omega)
theorem Cc(Y:X.A.units+64<u_):jz X (j_ .Eq) (Ho gg):=by
 intro pins s σ H x y v u Q I T L h;obtain⟨p,q,⟨W,S,O⟩,⟨N,Z,R⟩,h⟩:=h;obtain⟨as,P⟩:=W.heap I.hok T;obtain⟨bs,U⟩:=N.heap I.hok L;exact eq_dataH P U (lg S O) (lg Z R) Y ⟨.bl _,H,I,rfl,h⟩
theorem Hq(Y:X.A.units+64<u_):jz X (j_ .NotEq) (Ho fun p q=> !gg p q):=by
 intro pins s σ H x y v u Q I T L h;obtain⟨p,q,⟨W,S,O⟩,⟨N,Z,R⟩,h⟩:=h;obtain⟨as,P⟩:=W.heap I.hok T;obtain⟨bs,U⟩:=N.heap I.hok L;exact ne_dataH P U (lg S O) (lg Z R) Y ⟨.bl _,H,I,rfl,h⟩
theorem uw:vB X.K E (IP f) (Ho f):=by
 intro ι S H Y W v1 v2 Q rep U Z c;obtain⟨r,T,e,k⟩:=c;unfold IP at e;split at e
 ·next p q hp hq=>
  cases e;exact⟨p,q,pH rep 60 Y p v1 hp U,pH rep 60 W q v2 hq Z,k ι H .refl rep _ (.bl _)⟩
 ·cases e
theorem vR(W:X.A.units+64<u_)(Y:SE X E a m)(Z:SE X E b n):SE X E (.Compare a [.Eq] [b] pos) (fun ρ=>do let x<-m ρ;let y<-n ρ;il x y):=xI (Cc W) uw Y Z
theorem qi(W:X.A.units+64<u_)(Y:SE X E a m)(Z:SE X E b n):SB X E (.Compare a [.Eq] [b] pos) (fun ρ=>do let z<-(do let x<-m ρ;let y<-n ρ;il x y);lG z):=kD (Cc W) uw Y Z
theorem f9(W:X.A.units+64<u_)(Y:SE X E a m)(Z:SE X E b n):SB X E (.Compare a [.NotEq] [b] pos) (fun ρ=>do let z<-(do let x<-m ρ;let y<-n ρ;fV x y);lG z):=kD (Hq W) uw Y Z
def Hr(f:Bool->Bool):R2:=fun x y H Q=>∃p q r,(ReadsV H x p/\p.canLay0=b_/\p.depth<=60)/\(ReadsV H y q/\q.canLay0=b_/\q.depth<=60)/\Lv f p q=ar r/\Q (.bl r) H
theorem ux:vB X.K E (IQ f) (Hr f):=by
 intro ι S H Y W v1 v2 Q rep U Z c;obtain⟨r,T,e,k⟩:=c;unfold IQ at e;split at e
 ·next p q hp hq=>
  split at e
  ·next r hr=>
   cases e;exact⟨p,q,r,pH rep 60 Y p v1 hp U,pH rep 60 W q v2 hq Z,hr,k ι H .refl rep _ (.bl _)⟩
  ·cases e
 ·cases e
theorem qj(h:(sb xs).depth<=60):n_ xs<=60:=Pa h
theorem oB(h:(Rp xs).depth<=60):n_ xs<=60:=Pa h
theorem Cd(L:X.A.units+64<u_):jz X (j_ .In) (Hr id):=by
 intro pins s σ H x y v u Q I P N h;obtain⟨p,q,r,⟨R,U,K⟩,⟨O,Y,T⟩,Z,h⟩:=h;obtain⟨as,S⟩:=R.heap I.hok P;obtain⟨bs,W⟩:=O.heap I.hok N;cases q with
 |list xs=>
  cases Z;exact SeqAt.in_list_reads W S Y U (by have:=qj T;have:min (n_ xs) p.depth<=60:=ME (PD _ _) this;omega) ⟨.bl _,H,I,rfl,h⟩
 |tuple xs=>
  cases Z;exact SeqAt.in_tuple_reads W S Y U (by have:=oB T;have:min (n_ xs) p.depth<=60:=ME (PD _ _) this;omega) ⟨.bl _,H,I,rfl,h⟩
 |_=>cases Z
theorem AC(L:X.A.units+64<u_):jz X (j_ .NotIn) (Hr (!·)):=by
 intro pins s σ H x y v u Q I P N h;obtain⟨p,q,r,⟨R,U,K⟩,⟨O,Y,T⟩,Z,h⟩:=h;obtain⟨as,S⟩:=R.heap I.hok P;obtain⟨bs,W⟩:=O.heap I.hok N;cases q with
 |list xs=>
  cases Z;exact SeqAt.notIn_list_reads W S Y U (by have:=qj T;have:min (n_ xs) p.depth<=60:=ME (PD _ _) this;omega) ⟨.bl _,H,I,rfl,h⟩
 |tuple xs=>
  cases Z;exact SeqAt.notIn_tuple_reads W S Y U (by have:=oB T;have:min (n_ xs) p.depth<=60:=ME (PD _ _) this;omega) ⟨.bl _,H,I,rfl,h⟩
 |_=>cases Z
theorem yP(Y:X.A.units+64<u_)(Z:SE X E a m)(W:SE X E b n)(U:mh .In b=false:=by rfl):SE X E (.Compare a [.In] [b] pos) (fun ρ=>do let x<-m ρ;let y<-n ρ;inD x y):=xI (Cd Y) ux Z W U
theorem F6(Y:X.A.units+64<u_)(Z:SE X E a m)(W:SE X E b n)(U:mh .In b=false:=by rfl):SB X E (.Compare a [.In] [b] pos) (fun ρ=>do let z<-(do let x<-m ρ;let y<-n ρ;inD x y);lG z):=kD (Cd Y) ux Z W U
theorem Ce(Y:X.A.units+64<u_)(Z:SE X E a m)(W:SE X E b n)(U:mh .NotIn b=false:=by rfl):SB X E (.Compare a [.NotIn] [b] pos) (fun ρ=>do let z<-(do let x<-m ρ;let y<-n ρ;qh x y);lG z):=kD (AC Y) ux Z W U
end
section
variable {X:Cx}{E:XD}{a b e c:Expr}{m n l:TM}{pos p2:Pos}{es:List Expr}{ms:aP->M (List D)}
def JJ(f:Bool->Bool):D->D->M D
 | .bl i,.bl j=>aC (.bl (f (i==j)))
 |d,.non=>match d with
  | .non=>aC (.bl (f b_))
  |_=>aC (.bl (f dV))
 |_,_=>M.fail
theorem Cf:jz X (j_ .IsNot) (fun x y H Q=>∃i j,x= .bl i/\y= .bl j/\Q (.bl (!(i==j))) H):=by
 intro pins s σ H x y v u Q I Z Y h;obtain⟨i,j,rfl,rfl,q⟩:=h;cases Z;cases Y;exact isnot_bool ⟨.bl _,H,I,rfl,q⟩
theorem Hs{f:Bool->Bool}:vB X.K E (JJ f) (fun x y H Q=>(∃i j,x= .bl i/\y= .bl j/\Q (.bl (f (i==j))) H)\/(y= .non/\Q (.bl (f (decide (x= .non)))) H)):=by
 intro ι S H Y U v1 v2 Q rep Z W c;cases U with
 |non=>
  refine .inr ⟨W.non_inv,?_⟩;cases Y with
  |non=>rw[Z.non_inv];exact ao c .refl rep _ (.bl _)
  |bl i=>rw[Z.bl_inv];exact ao c .refl rep _ (.bl _)
  |int i=>rw[Z.int_inv];exact ao c .refl rep _ (.bl _)
  |str i=>rw[Z.str_inv];exact ao c .refl rep _ (.bl _)
  |tup ds=>obtain⟨p,vs,rfl,_,_⟩:=Z.tup_inv;exact ao c .refl rep _ (.bl _)
  |lst k=>obtain⟨p,rfl,_⟩:=Z.lst_inv;exact ao c .refl rep _ (.bl _)
  |ro ds=>obtain⟨p,vs,rfl,_,_⟩:=Z.ro_inv;exact ao c .refl rep _ (.bl _)
  |fz ds=>obtain⟨p,_,vs,rfl,_,_⟩:=Z.fz_inv;exact ao c .refl rep _ (.bl _)
  |emp=>cases Z;exact ao c .refl rep _ (.bl _)
  |fn a c q ds vs=>cases Z;exact ao c .refl rep _ (.bl _)
  |exc x ds=>cases Z<;>exact ao c .refl rep _ (.bl _)
 |bl j=>
  cases Y with
  |bl i=>exact .inl ⟨i,j,Z.bl_inv,W.bl_inv,ao c .refl rep _ (.bl _)⟩
  |_=>exact(aj c).elim
 |_=>cases Y<;>exact(aj c).elim
theorem vS(Y:SE X E a m)(Z:SE X E b n):SB X E (.Compare a [.IsNot] [b] pos) (fun ρ=>do let z<-(do let x<-m ρ;let y<-n ρ;JJ (!·) x y);lG z):=kD (Cf.or Ej) (Hs (f:=(!·))) Y Z
def LW:D->M Int
 | .int i=>aC i
 |_=>M.fail
def Mh(K:d_)(E:XD)(m:aP->M (Option Int)):TO:=fun σ H Q=>∃ ι S ρ,Rep K ι H S/\RelE K ι H ρ σ/\cont K E (m ρ) ι S H (fun o _ _ H'=>Q o H')
def SO(X:Cx)(E:XD)(o:Option Expr)(m:aP->M (Option Int)):Prop:=PO X o (Mh X.K E m)
theorem PO.imp{X:Cx}{e:Option Expr}{t t':TO}(h:PO X e t)(k:∀ σ H Q,t' σ H Q->t σ H Q):PO X e t':=fun pins s σ H Q I hw=>h pins s σ H Q I (k σ H Q hw)
theorem fh:SO X E none (fun _=>aC none):=by
 refine PO.imp Ep fun σ H Q h=>?_;obtain⟨ι,S,ρ,rep,re,c⟩:=h;exact ao c .refl rep
theorem fi(h:SE X E e m):SO X E (ar e) (fun ρ=>do let x<-m ρ;let i<-LW x;aC (ar i)):=by
 refine PO.imp (yG h) fun σ H Q h=>?_;obtain⟨ι,S,ρ,rep,re,c⟩:=h;refine⟨ι,S,ρ,rep,re,aD (aq c) fun x Y S1 W e1 rep1 Z v r=>?_⟩;cases x with
 |int i=>exact⟨i,r.int_inv,ao (ao (aq Z) .refl rep1) .refl rep1⟩
 |_=>exact(aj (aq Z)).elim
def cutD(xs:List D)(lo hi:Option Int):List D:=(xs.drop (HT.sIx xs.length 0 lo)).take (HT.sIx xs.length xs.length hi - HT.sIx xs.length 0 lo)
theorem pI{K:d_}{ι:List dt}{H:Hp}{ds:List D}{vs:List V}(lo hi:Option Int)(h:RelDs K ι H ds vs):RelDs K ι H (cutD ds lo hi) (rW vs lo hi):=by
 unfold cutD rW;rw[h.length];exact(h.drop _).take _
def qk:D->Option Int->Option Int->M D
 | .tup xs,lo,hi=>bK (cutD xs lo hi)
 | .lst k,lo,hi=>do let xs<-getL k;bD (cutD xs lo hi)
 | .fz xs,lo,hi=>bD (cutD xs lo hi)
 |_,_,_=>M.fail
theorem EF:FX X (fun x lo hi H Q=>∃a xs,x= .ref a/\lJ X.K H a xs/\(HT.sIx xs.length 0 lo=0/\HT.sIx xs.length xs.length hi=xs.length)/\Q (.ref a) H):=by
 intro pins s σ H x v L J lo hi O Q I S hs R pu h;obtain⟨a,xs,rfl,T,hw,q⟩:=h;cases S;obtain⟨its,r,Z,N⟩:=I.tuple T;have hlen:its.toArray.size=xs.length:=by rw[MB];exact r.length.symm
 refine⟨"tuple",_,PyProof.Rows.slot_tuple_getitem.lookup,Z.typeIs,?_⟩;have fin:EP X pins σ Q (.ref a) s:=⟨.ref a,H,I,rfl,q⟩;obtain⟨os,U,W,P⟩:=id hs;have Y:s.TypeIs (.ref O) "slice":=⟨os,U,W⟩;unfold Q3
 try with_reducible refine Nd ?_
 first|refine Mo (Mr ?_)|skip
 refine Mo (Qb Z.typeIs (by decide) ?_)
 refine Mo (wpAny_callSpecial?_slot (name:=hY "__getitem__") Z.typeIs Nl
  (Ng Nl Z.typeIs PC ?_ (PU _ _)))
 show er _ _ (t_ (.ref a)>>=_) _ _ s;refine Mo (Q9 Z (Mo (Ow Y ?_)));rw[if_pos (by decide)]
 refine Mo (HT.sliceApplied_gen hs R pu ?_);rw[hlen,hw.1,hw.2];show er _ _ (if ((((0:Nat):Int))==0 && (1:Int)==1 && (xs.length - 0)==xs.length)=b_ then _ else _) _ _ s;rw[if_pos (by simp)]
 unfold Builtin.Tuple.tupleIsExact;refine Mo (Mo (Ow Z.typeIs (Mr ?_)));rw[if_pos (by decide)]
 first
  |exact Mo (Pz (Mr ⟨_,rfl,Mr fin⟩))
  |exact Mo (Pz (Mo (Mr (Mr ⟨_,rfl,Mr fin⟩))))
theorem xM{xs:List V}{lo hi:Option Int}(h:HT.sIx xs.length 0 lo=0/\HT.sIx xs.length xs.length hi=xs.length):rW xs lo hi=xs:=by
 unfold rW;rw[h.1,h.2,QM,Nat.sub_zero,QA]
theorem dy{lo hi:Option Expr}{ml O:aP->M (Option Int)}(J:SE X E e m)(F:SO X E lo ml)(C:SO X E hi O):
  SE X E (.Subscript e (.Slice lo hi none p2) pos) (fun ρ=>do let x<-m ρ;let i<-ml ρ;let j<-O ρ;qk x i j):=by
 refine PE.imp (BU (G9.or (EF.or Et)) J F C) fun σ H Q h=>?_;obtain⟨ι,S,ρ,rep,re,c⟩:=h;refine⟨ι,S,ρ,rep,re,aD (aq c) fun x T S1 A e1 rep1 I v r=>?_⟩;refine⟨T,S1,ρ,rep1,re.later rep e1,aD (aq I) fun i W S2 y e2 rep2 N=>?_⟩;refine⟨W,S2,ρ,rep2,(re.later rep e1).later rep1 e2,aD (aq N) fun j L z w K rep3 Y=>?_⟩;have U:=(r.later rep1 e2).later rep2 K;cases x with
 | tup ds=>
  obtain⟨p,vs,rfl,Z,P⟩:=U.tup_inv;by_cases hw:HT.sIx vs.length 0 i=0/\HT.sIx vs.length vs.length j=vs.length
  ·refine .inr (.inl ⟨p,vs,rfl,.of Z,hw,jN Y rep3 Z ?_⟩);have:=pI i j P;rw[xM hw]at this;exact this
  ·exact .inl ⟨p,vs,rfl,.of Z,hw,(gx Y rep3 (pI i j P)).2⟩
 |lst k=>
  obtain⟨p,rfl,Z⟩:=U.lst_inv;obtain⟨ds,vs,_,G,R,B⟩:=bH Y rep3 Z;exact .inr (.inr ⟨p,vs,rfl,.of G,(bJ B rep3 (pI i j R)).2⟩)
 |fz ds=>
  obtain⟨p,o,vs,rfl,Z,R⟩:=U.fz_inv;exact .inr (.inr ⟨p,vs,rfl,.inl (.inr ⟨o,Z⟩),(bJ Y rep3 (pI i j R)).2⟩)
 |_=>exact(aj Y).elim
end
section
variable {X:Cx}{E:XD}{a b e c o:Expr}{m n l:TM}{pos p2:Pos}{es:List Expr}{ms:aP->M (List D)}
def dW:List D->M D
 |[.lst k]=>do let xs<-getL k;aC (.int xs.length)
 |[.tup ds]=>aC (.int ds.length)
 |[.ro ds]=>aC (.int ds.length)
 |[.fz ds]=>aC (.int ds.length)
 |_=>M.fail
theorem AD:lL X.K E dW (fun xs H Q=>∃p ys,xs=[.ref p]/\(kY X.K H p ys\/lJ X.K H p ys)/\Q (.int ys.length) H):=by
 intro ι S H ds vs Q rep r c
 match ds,r,c with
 |[.lst k],r,c=>
  obtain⟨v,ws,rfl,W,Z⟩:=r.cons_inv;cases Z.nil_inv;obtain⟨p,rfl,Y⟩:=W.lst_inv;obtain⟨es,us,_,R,U,T⟩:=bH c rep Y;refine⟨p,us,rfl,.inl (.of R),?_⟩;have:=ao T .refl rep _ (.int _);rw[U.length]at this;exact this
 |[.tup es],r,c=>
  obtain⟨v,ws,rfl,W,Z⟩:=r.cons_inv;cases Z.nil_inv;obtain⟨p,us,rfl,Y,U⟩:=W.tup_inv;refine⟨p,us,rfl,.inr (.of Y),?_⟩;have:=ao c .refl rep _ (.int _);rw[U.length]at this;exact this
 |[.ro es],r,c=>
  obtain⟨v,ws,rfl,W,Z⟩:=r.cons_inv;cases Z.nil_inv;obtain⟨p,us,rfl,Y,U⟩:=W.ro_inv;refine⟨p,us,rfl,.inl Y.sq,?_⟩;have:=ao c .refl rep _ (.int _);rw[U.length]at this;exact this
 |[.fz es],r,c=>
  obtain⟨v,ws,rfl,W,Z⟩:=r.cons_inv;cases Z.nil_inv;obtain⟨p,o,us,rfl,Y,U⟩:=W.fz_inv;refine⟨p,us,rfl,.inl (.inl (.inr ⟨o,Y⟩)),?_⟩;have:=ao c .refl rep _ (.int _);rw[U.length]at this;exact this
 |[],r,c=>exact(aj c).elim
 |[.non],r,c=>exact(aj c).elim
 |[.bl _],r,c=>exact(aj c).elim
 |[.int _],r,c=>exact(aj c).elim
 |[.str _],r,c=>exact(aj c).elim
 |[.emp],r,c=>exact(aj c).elim
 |d::d2::r',r,c=>cases d<;>exact(aj c).elim
theorem gf(W:X.mg "len"=none)(Y:SE X E e m)(Z:Gl X "len":=by rfl)(hs:ee [e] X.env=[(dV,hS e X.env)]:=by rfl):SE X E (.Call (.Name "len" p) [e] [] pos) (fun ρ=>do let ds<-(do let x<-m ρ;let xs<-aC [];aC (x::xs));dW ds):=
 jD uc AD Z W PySem.boot_len (af Y ai hs) (by decide) (by decide) hs rfl
def yQ(f:Int->Int->Int):List D->M D
 |[.int i,.int j]=>aC (.int (f i j))
 |_=>M.fail
theorem qm{f:Int->Int->Int}:lL X.K E (yQ f) (fun xs H Q=>∃i j,xs=[.int i,.int j]/\Q (.int (f i j)) H):=by
 intro ι S H ds vs Q rep r c;unfold yQ at c;split at c
 ·next i j=>
  obtain⟨v,ws,rfl,U,W⟩:=r.cons_inv;obtain⟨R,Z,rfl,Y,T⟩:=W.cons_inv;cases T.nil_inv;rw[U.int_inv,Y.int_inv];exact⟨i,j,rfl,ao c .refl rep _ (.int _)⟩
 ·exact(aj c).elim
def maxD:List D->M D:=yQ fun i j=>if j>i then j else i
def minD:List D->M D:=yQ fun i j=>if j<i then j else i
theorem qo(Y:X.calm=b_)(T:X.mg "max"=none)(U:SA X E [a,b] ms)(W:Gl X "max":=by rfl)(hs:ee [a,b] X.env=[(dV,hS a X.env),(dV,hS b X.env)]:=by rfl)(Z:ee [b] X.env=[(dV,hS b X.env)]:=by rfl):
  SE X E (.Call (.Name "max" p) [a,b] [] pos) (fun ρ=>do let ds<-ms ρ;maxD ds):=
 jD (Am Y) qm W T (by decide+kernel) U (by decide) (by decide) (by rw[hs,Z]) (by rw[Z];rfl)
theorem nV(Y:X.calm=b_)(T:X.mg "min"=none)(U:SA X E [a,b] ms)(W:Gl X "min":=by rfl)(hs:ee [a,b] X.env=[(dV,hS a X.env),(dV,hS b X.env)]:=by rfl)(Z:ee [b] X.env=[(dV,hS b X.env)]:=by rfl):
  SE X E (.Call (.Name "min" p) [a,b] [] pos) (fun ρ=>do let ds<-ms ρ;minD ds):=
 jD (An Y) qm W T (by decide+kernel) U (by decide) (by decide) (by rw[hs,Z]) (by rw[Z];rfl)
def m3:List D->M D
 |[.lst k]=>do let xs<-getL k;bD xs
 |[.tup ds]=>bD ds
 |[.ro ds]=>bD ds
 |[.fz ds]=>bD ds
 |_=>M.fail
def fE:List D->M D
 |[.lst k]=>do let xs<-getL k;bK xs
 |[.tup ds]=>bK ds
 |[.fz ds]=>bK ds
 |_=>M.fail
theorem xN:lL X.K E m3 (fun xs H Q=>∃p ys,xs=[.ref p]/\(kY X.K H p ys\/lJ X.K H p ys)/\∀l,H l=none->Q (.ref l) (upd H l (.lst ys))):=by
 intro ι S H ds vs Q rep r c;unfold m3 at c;split at c
 ·next k=>
  obtain⟨v,ws,rfl,W,Z⟩:=r.cons_inv;cases Z.nil_inv;obtain⟨p,rfl,Y⟩:=W.lst_inv;obtain⟨es,us,_,R,U,T⟩:=bH c rep Y;exact⟨p,us,rfl,.inl (.of R),(bJ T rep U).2⟩
 ·next es=>
  obtain⟨v,ws,rfl,W,Z⟩:=r.cons_inv;cases Z.nil_inv;obtain⟨p,us,rfl,Y,U⟩:=W.tup_inv;exact⟨p,us,rfl,.inr (.of Y),(bJ c rep U).2⟩
 ·next es=>
  obtain⟨v,ws,rfl,W,Z⟩:=r.cons_inv;cases Z.nil_inv;obtain⟨p,us,rfl,Y,U⟩:=W.ro_inv;exact⟨p,us,rfl,.inl Y.sq,(bJ c rep U).2⟩
 ·next es=>
  obtain⟨v,ws,rfl,W,Z⟩:=r.cons_inv;cases Z.nil_inv;obtain⟨p,o,us,rfl,Y,U⟩:=W.fz_inv;exact⟨p,us,rfl,.inl (.inl (.inr ⟨o,Y⟩)),(bJ c rep U).2⟩
 ·exact(aj c).elim
theorem vT:lL X.K E fE (fun xs H Q=>∃p ys,xs=[.ref p]/\((kY X.K H p ys/\∀l,H l=none->Q (.ref l) (upd H l (.tup ys)))\/(lJ X.K H p ys/\Q (.ref p) H))):=by
 intro ι S H ds vs Q rep r c;unfold fE at c;split at c
 ·next k=>
  obtain⟨v,ws,rfl,W,Y⟩:=r.cons_inv;cases Y.nil_inv;obtain⟨p,rfl,Z⟩:=W.lst_inv;obtain⟨es,us,_,R,U,T⟩:=bH c rep Z;exact⟨p,us,rfl,.inl ⟨.of R,(gx T rep U).2⟩⟩
 ·next es=>
  obtain⟨v,ws,rfl,W,Y⟩:=r.cons_inv;cases Y.nil_inv;obtain⟨p,us,rfl,Z,U⟩:=W.tup_inv;exact⟨p,us,rfl,.inr ⟨.of Z,jN c rep Z U⟩⟩
 ·next es=>
  obtain⟨v,ws,rfl,W,Y⟩:=r.cons_inv;cases Y.nil_inv;obtain⟨p,o,us,rfl,Z,U⟩:=W.fz_inv;exact⟨p,us,rfl,.inl ⟨.inl (.inr ⟨o,Z⟩),(gx c rep U).2⟩⟩
 ·exact(aj c).elim
theorem yR(W:X.mg "list"=none)(Y:SE X E e m)(Z:Gl X "list":=by rfl)(hs:ee [e] X.env=[(dV,hS e X.env)]:=by rfl):SE X E (.Call (.Name "list" p) [e] [] pos) (fun ρ=>do let ds<-(do let x<-m ρ;let xs<-aC [];aC (x::xs));m3 ds):=
 sQ ud xN Z W (by decide+kernel) (af Y ai hs) (by decide) (by decide) hs rfl
theorem iJ(W:X.mg "tuple"=none)(Y:SE X E e m)(Z:Gl X "tuple":=by rfl)(hs:ee [e] X.env=[(dV,hS e X.env)]:=by rfl):SE X E (.Call (.Name "tuple" p) [e] [] pos) (fun ρ=>do let ds<-(do let x<-m ρ;let xs<-aC [];aC (x::xs));fE ds):=
 sQ rY vT Z W (by decide+kernel) (af Y ai hs) (by decide) (by decide) hs rfl
def EG(H:Hp):V->Option String
 | .non=>ar "NoneType"
 | .bl _=>ar "bool"
 | .int _=>ar "int"
 | .str _=>ar "str"
 | .ref a=>match H a with
  |some (.lst _)=>ar "list"
  |some (.frz _ (.lst _))=>ar "list"
  |some (.tup _)=>ar "tuple"
  |some (.dK _)=>ar "dict"
  |_=>none
 |_=>none
theorem Cg{K:d_}{H:Hp}{v:V}{T:String}(h:EG H v=ar T):TyOf K H v (.type T):=by
 cases v with
 |non=>cases h;exact .non
 |bl b=>cases h;exact .bl b
 |int i=>cases h;exact .int i
 |str x=>cases h;exact .str x
 |ref a=>
  simp only[EG]at h;split at h
  ·next q=>cases h;exact .lst q
  ·next q=>cases h;exact .frz q
  ·next q=>cases h;exact .tup q
  ·next q=>cases h;exact .dK q
  ·cases h
 |_=>cases h
def Ci:D->String
 | .non=>"NoneType"
 | .bl _=>"bool"
 | .int _=>"int"
 | .str _=>"str"
 | .tup _=>"tuple"
 | .lst _=>"list"
 | .ro _=>"list"
 | .fz _=>"list"
 | .emp=>"dict"
 | .fn _ _ _ _ _=>"NoneType"
 | .exc _ _=>"NoneType"
def vU:D->Bool
 | .ro _=>dV
 | .fn _ _ _ _ _=>dV
 | .exc _ _=>dV
 |_=>b_
theorem Cj{K:d_}{ι:List dt}{S:aF}{H:Hp}{d:D}{v:V}(Y:Rep K ι H S)(r:RelD K ι H d v)(Z:vU d=b_):EG H v=ar (Ci d):=by
 cases r with
 |non=>rfl
 |bl=>rfl
 |int=>rfl
 |str=>rfl
 |tup h _=>simp[EG,h,Ci]
 |lst h=>
  obtain⟨vs,e⟩:=Y.isL (M1 h);simp[EG,e,Ci]
 |ro h _=>cases Z
 |fz h _=>simp[EG,h,Ci]
 |emp h=>simp[EG,h,Ci]
 |fn=>cases Z
 |exc=>cases Z
 |excF=>cases Z
def AE(f:String->Bool):D->M D
 | .ro _=>M.fail
 | .fn _ _ _ _ _=>M.fail
 | .exc _ _=>M.fail
 |d=>aC (.bl (f (Ci d)))
theorem vV{K:d_}{E:XD}{ι:List dt}{S:aF}{H:Hp}{f:String->Bool}{d:D}{Q:D->List dt->aF->Hp->Prop}(c:cont K E (AE f d) ι S H Q):vU d=b_/\cont K E (aC (.bl (f (Ci d)))) ι S H Q:=by
 cases d with
 |ro ds=>exact(aj c).elim
 |fn a c' q ds vs=>exact(aj c).elim
 |exc x ds=>exact(aj c).elim
 |_=>exact⟨rfl,c⟩
def jo(t T:String):Bool:=t==T||(t=="bool" && T=="int")
theorem uy(K:d_)(t:String)(Y:t∈["NoneType","bool","int","str","tuple","list","dict"])(T:String)(Z:T∈["bool","int","str","tuple","list"]):r_ K (.type t) (.type T)=ar (jo t T):=by
 simp only[f',fb,or_false]at Y Z;rcases Y with rfl|rfl|rfl|rfl|rfl|rfl|rfl<;>rcases Z with rfl|rfl|rfl|rfl|rfl<;>rfl
theorem yS(d:D):Ci d∈["NoneType","bool","int","str","tuple","list","dict"]:=by cases d<;>simp[Ci]
theorem Ck:ef X (.builtin "isinstance") (fun xs H Q=>∃x t T,xs=[x,.ty T]/\EG H x=ar t/\t∈["NoneType","bool","int","str","tuple","list","dict"]/\T∈["bool","int","str","tuple","list"]/\Q (.bl (jo t T)) H):=by
 intro pins s σ H xs us Q I r h;obtain⟨x,t,T,rfl,S,R,P,q⟩:=h;obtain⟨u,U,rfl,W,Z⟩:=vals2 r;cases (show U=t7 T from Z);exact Aq I W (Cg S) (uy X.K t R T P) fun Y=>⟨.bl _,H,I.tok Y,rfl,q⟩
theorem gh{p q:Pos}{T:Str}{Ts:String}(O:X.mg "isinstance"=none)(U:X.mg T=none)(L:SE X E e m)(J:k8 T=ar (.type Ts):=by decide+kernel)(Y:Ts∈["bool","int","str","tuple","list"]:=by decide)(I:Gl X "isinstance":=by rfl)(R:Gl X T:=by rfl)
  (N:T≠"__name__":=by decide) (W:(T==("__debug__":Str))=false:=by decide)
  (hs:ee [e,.Name T q] X.env=[(dV,hS e X.env),(dV,hS (.Name T q) X.env)]:=by rfl) (Z:ee [.Name T q] X.env=[(dV,hS (.Name T q) X.env)]:=by rfl):
  SE X E (.Call (.Name "isinstance" p) [e,.Name T q] [] pos) (fun ρ=>do let x<-m ρ;AE (fun t=>jo t Ts) x):=by
 refine PE.imp (ky Ck I O (by decide+kernel) (fN L (fN (pE R U J (v:=.ty Ts) rfl N W) ku Z) (by rw[hs,Z])) (by decide) (by decide) (by rw[hs,Z]) (by rw[Z];rfl)) fun σ H Q h=>?_
 obtain⟨ι,S,ρ,rep,re,c⟩:=h;refine⟨ι,S,ρ,rep,re,aD (aq c) fun x K S1 G e1 rep1 P v r=>?_⟩;obtain⟨W,P⟩:=vV P;exact⟨v,Ci x,Ts,rfl,Cj rep1 r W,yS x,Y,ao P .refl rep1 _ (.bl _)⟩
theorem AF:ef X (.builtin "isinstance") (fun xs H Q=>∃x t p T U,xs=[x,.ref p]/\H p=ar (.tup [.ty T,.ty U])/\EG H x=ar t/\t∈["NoneType","bool","int","str","tuple","list","dict"]/\T∈["bool","int","str","tuple","list"]/\U∈["bool","int","str","tuple","list"]/\
  Q (.bl (jo t T||jo t U)) H):=by
 intro pins s σ H xs us Q I r h;obtain⟨x,t,p,T,U,rfl,G,Z,R,v,J,q⟩:=h;obtain⟨u,L,rfl,Y,O⟩:=vals2 r;cases (show L=ey p from O);obtain⟨_,its,k,⟨cls,dd,data,j⟩,S,N,n,hd⟩:=(show bB X.prog X.w H s.heap p (.tup [.ty T,.ty U])from I.hok p _ G);simp only at N hd;subst N hd;obtain⟨B,A,rfl,F,C⟩:=vals2 k;cases (show B=t7 T from F);cases (show A=t7 U from C);have e:RV X.K (.type t) [.type T,.type U]=ar (jo t T||jo t U):=by
  unfold RV RV RV;rw[uy X.K t R T v,uy X.K t R U J];cases jo t T<;>cases jo t U<;>rfl
 have fin:∀P,EP X pins σ Q (.bool (jo t T||jo t U)) {s with toks:=P}:=fun P=>⟨.bl _,H,I.tok P,rfl,q⟩;have ty:=Cg (K:=X.K) Z;generalize hT:t7 t=tv at ty e;cases ty with
 |non=>cases (show u=hO from Y);exact NG P8 I.kIn p7 S e (fun z=>nomatch z) fin
 |bl y=>cases (show u=t6 y from Y);exact NG W.kitx_bool I.kIn p7 S e (fun z=>nomatch z) fin
 |int i=>obtain⟨t,q⟩:=(show ∃t,u=pd i t from Y);cases q;exact NG W.kitx_int I.kIn p7 S e (fun z=>nomatch z) fin
 |str y=>obtain⟨t,q⟩:=(show ∃t,u=J' y t from Y);cases q;exact NG W.kitx_str I.kIn p7 S e (fun z=>nomatch z) fin
 |flt y=>obtain⟨t,q⟩:=(show ∃t,u=Qn y t from Y);cases q;exact NG W.kitx_float I.kIn p7 S e (fun z=>nomatch z) fin
 | @lst a xs ea=>
  cases (show u=ey a from Y);obtain⟨_,_,n,_,Z⟩:=(show bB X.prog X.w H s.heap a (.lst xs)from I.hok a _ ea);exact NG O6 I.kIn ⟨_,Z,rfl⟩ S e (fun z=>nomatch z) fin
 | @frz a ob xs ea=>
  cases (show u=ey a from Y);obtain⟨_,_,_,n,_,Z⟩:=(show bB X.prog X.w H s.heap a (.frz ob (.lst xs))from I.hok a _ ea);exact NG O6 I.kIn ⟨_,Z,rfl⟩ S e (fun z=>nomatch z) fin
 | @tup a xs ea=>
  cases (show u=ey a from Y);obtain⟨_,_,_,o,Z,R,_⟩:=(show bB X.prog X.w H s.heap a (.tup xs)from I.hok a _ ea);exact NG W.kitx_tuple I.kIn ⟨o,Z,R⟩ S e (fun z=>nomatch z) fin
 | @dK a kvs ea=>
  cases (show u=ey a from Y);obtain⟨_,_,vs,_,o,es,ep,Z,R,_⟩:=(show bB X.prog X.w H s.heap a (.dK kvs)from I.hok a _ ea);exact NG O7 I.kIn ⟨o,Z,R.1⟩ S e (fun z=>nomatch z) fin
 | @dT a kvs ea=>
  cases (show u=ey a from Y);obtain⟨_,_,xs,_,o,es,ep,Z,R,_⟩:=(show bB X.prog X.w H s.heap a (.dT kvs)from I.hok a _ ea);exact NG O7 I.kIn ⟨o,Z,R.1⟩ S e (fun z=>nomatch z) fin
 |ins=>cases hT
theorem EH{p q Y W:Pos}{x1}{T U:Str}{Ts Us:String}(y:X.mg "isinstance"=none)(F:X.mg T=none)(B:X.mg U=none)(w:SE X E e m)(u:k8 T=ar (.type Ts):=by decide+kernel)(L:k8 U=ar (.type Us):=by decide+kernel)
  (P:Ts∈["bool","int","str","tuple","list"]:=by decide) (J:Us∈["bool","int","str","tuple","list"]:=by decide) (s:Gl X "isinstance":=by rfl) (O:Gl X T:=by rfl) (K:Gl X U:=by rfl)
  (k:T≠"__name__":=by decide) (G:(T==("__debug__":Str))=false:=by decide) (C:U≠"__name__":=by decide) (I:(U==("__debug__":Str))=false:=by decide)
  (hs:ee [e,.Tuple [.Name T q,.Name U Y] x1 W] X.env=[(dV,hS e X.env),(dV,hS (.Tuple [.Name T q,.Name U Y] x1 W) X.env)]:=by rfl) (Z:ee [.Tuple [.Name T q,.Name U Y] x1 W] X.env=[(dV,hS (.Tuple [.Name T q,.Name U Y] x1 W) X.env)]:=by rfl):
  SE X E (.Call (.Name "isinstance" p) [e,.Tuple [.Name T q,.Name U Y] x1 W] [] pos) (fun ρ=>do let x<-m ρ;AE (fun t=>jo t Ts||jo t Us) x):=by
 refine PE.imp (ky AF s y (by decide+kernel) (fN w (fN (BO (fN (pE O F u (v:=.ty Ts) rfl k G) (fN (pE K B L (v:=.ty Us) rfl C I) ku rfl) rfl)) ku Z) (by rw[hs,Z])) (by decide) (by decide) (by rw[hs,Z]) (by rw[Z];rfl)) fun σ H Q h=>?_
 obtain⟨ι,S,ρ,rep,re,c⟩:=h;refine⟨ι,S,ρ,rep,re,aD (aq c) fun x R S1 A e1 rep1 N v r=>?_⟩;obtain⟨G,N⟩:=vV N;refine⟨by show 2<=sizeLine;decide,fun p z=>?_⟩
 have rep2:=gH (o:=.tup [.ty Ts,.ty Us]) rep1 z;have e2:Ext R A R (upd A p (.tup [.ty Ts,.ty Us])):=fO z;exact⟨v,Ci x,p,Ts,Us,rfl,aX,Cj rep2 (r.later rep1 e2) G,yS x,P,J,ao N e2 rep2 _ (.bl _)⟩
end
section
variable {X:Cx}{E:XD}{a b e c o tg:Expr}{m n l:TM}{pos p2:Pos}{es:List Expr}{ms:aP->M (List D)}
theorem range_all{bs:List Bool}:(eb bs.length).all (fun i=>bs.getD i dV)=bs.all id:=by
 induction bs with
 |nil=>rfl
 |cons b bs ih=>
  rw[MW,List.range_succ_eq_map,Qm,Ox];simp only[List.getD_cons_zero,Q6,id];congr 1
theorem AG(J:X.calm=b_):ef X (.builtin "all") (fun xs H Q=>∃(p:dt) (bs:List Bool),xs=[.ref p]/\kY X.K H p (bs.map V.bl)/\Q (.bl (bs.all id)) H):=by
 intro pins s σ H xs us Q I r h;obtain⟨p,bs,rfl,G,q⟩:=h;obtain⟨u,rfl,P⟩:=vals1 r;cases (show u=ey p from P);obtain⟨its,R,L,z⟩:=I.list G;have T:=L.isList;refine call_all_walk (P7 T ?_);have U:p<s.heap.objs.size:=by obtain⟨o,F,_⟩:=T;exact Mx F
 have hlen:=R.length;refine⟨s.heap.objs.size,_,_,_,_,_,fun i=>bs.getD i dV,rfl,Walks.list (A:=X.A.in1) (by show X.A.handled=none;exact I.ok.hd J) s.heap.objs.size p (MD U) its.toArray,⟨⟨_,Mz _ rfl,rfl,rfl⟩,T.push _⟩,?_,fun h' B N=>?_⟩
 ·intro i v s' y E' C W;have Z:its[i]? =ar v:=by simpa using C
  have hi:i<its.length:=(Mv.mp Z).1;have Y:i<bs.length:=by rw[Mq]at hlen;omega
  have:(bs.map V.bl)[i]? =ar (.bl bs[i]):=by rw[MO,Mt Y];rfl
  obtain⟨u,S,O⟩:=R.get this;rw[Z]at S;cases S;cases (show v=t6 bs[i]from O);have:bs.getD i dV=bs[i]:=by simp[List.getD,Y]
  dsimp only at W;rw[this]at W;exact NK W
 ·have e1:its.toArray.size=bs.length:=by rw[MB, <-hlen,Mq]
  rw[e1,range_all];refine⟨.bl _,H,I.kept (fun b o e=>N b o ?_ (Mp _ e)),rfl,q⟩;have:b≠s.heap.objs.size:=MD (Mx e);simpa using this
def boolsOf:List D->Option (List Bool)
 |[]=>ar []
 | .bl i::r=>(boolsOf r).map (i::·)
 |_=>none
theorem kJ{K:d_}{ι:List dt}{H:Hp}:∀{ds:List D} {vs:List V} {ns:List Bool},RelDs K ι H ds vs->boolsOf ds=ar ns->vs=ns.map V.bl
 |[],vs,ns,h,e=>by cases e;rw[h.nil_inv];rfl
 | .bl i::ds,vs,ns,h,e=>by
  obtain⟨v,ws,rfl,Z,Y⟩:=h.cons_inv;cases q:boolsOf ds with
  |none=>simp[boolsOf,q]at e
  |some ks=>
   simp[boolsOf,q]at e;subst e;rw[Z.bl_inv,kJ Y q];rfl
 | .non::_,_,_,_,e=>by cases e
 | .int _::_,_,_,_,e=>by cases e
 | .str _::_,_,_,_,e=>by cases e
 | .tup _::_,_,_,_,e=>by cases e
 | .lst _::_,_,_,_,e=>by cases e
 | .ro _::_,_,_,_,e=>by cases e
 | .fz _::_,_,_,_,e=>by cases e
 | .emp::_,_,_,_,e=>by cases e
def oY:List D->M D
 |[.lst k]=>do
  let xs<-getL k
  match boolsOf xs with
  |some bs=>aC (.bl (bs.all id))
  |none=>M.fail
 |[.fz xs]=>match boolsOf xs with
  |some bs=>aC (.bl (bs.all id))
  |none=>M.fail
 |_=>M.fail
theorem AH:lL X.K E oY (fun xs H Q=>∃(p:dt) (bs:List Bool),xs=[.ref p]/\kY X.K H p (bs.map V.bl)/\Q (.bl (bs.all id)) H):=by
 intro ι S H ds vs Q rep r c;unfold oY at c;split at c
 ·next k=>
  obtain⟨v,ws,rfl,U,Y⟩:=r.cons_inv;cases Y.nil_inv;obtain⟨p,rfl,W⟩:=U.lst_inv;obtain⟨es,us,_,R,T,Z⟩:=bH c rep W;cases q:boolsOf es with
  |none=>rw[q]at Z;exact(aj Z).elim
  |some bs=>
   rw[q]at Z;refine⟨p,bs,rfl,.of ?_,ao Z .refl rep _ (.bl _)⟩;rw[<-kJ T q];exact R
 ·next es=>
  obtain⟨v,ws,rfl,U,Y⟩:=r.cons_inv;cases Y.nil_inv;obtain⟨p,o,us,rfl,W,T⟩:=U.fz_inv;cases q:boolsOf es with
  |none=>rw[q]at c;exact(aj c).elim
  |some bs=>
   rw[q]at c;refine⟨p,bs,rfl,.inl (.inr ⟨o,?_⟩),ao c .refl rep _ (.bl _)⟩;rw[<-kJ T q];exact W
 ·exact(aj c).elim
theorem nW(Z:X.calm=b_)(U:X.mg "all"=none)(W:SE X E e m)(Y:Gl X "all":=by rfl)(hs:ee [e] X.env=[(dV,hS e X.env)]:=by rfl):SE X E (.Call (.Name "all" p) [e] [] pos) (fun ρ=>do let ds<-(do let x<-m ρ;let xs<-aC [];aC (x::xs));oY ds):=
 jD (AG Z) AH Y U (by decide+kernel) (af W ai hs) (by decide) (by decide) hs rfl
def c8:D->List D->M D
 | .lst k,[d]=>do let xs<-getL k;lZ k (xs++[d])
 |_,_=>M.fail
def m4:D->List D->M D
 | .lst k,[.lst j]=>do let xs<-getL k;let ys<-getL j;lZ k (xs++ys)
 | .lst k,[.fz ys]=>do let xs<-getL k;lZ k (xs++ys)
 |_,_=>M.fail
def nX:D->List D->M D
 | .lst k,[.int i]=>do
  let xs<-getL k
  if 0<=i/\i<xs.length then
   match xs[i.toNat]? with
   |some y=>do let _<-lZ k (xs.eraseIdx i.toNat);aC y
   |none=>M.fail
  else M.fail
 |_,_=>M.fail
theorem Cm{K:d_}{H:Hp}{p:dt}{xs:List V}(h:H p=ar (.lst xs)):Lo K "list" (.ref p) H:=.inl ⟨rfl,xs,.of h⟩
def Ht:D->M Unit
 | .lst _=>aC ()
 |_=>M.fail
theorem uz{name:Str}{L:String}{f:D->List D->M D}{r:V->List V->Hp->VK->Prop}{Y:Pos}(T:Slot "list" name L)(O:typeOf (.builtin L)=aC (.type "method_descriptor"))(A:Lm X L r)
  (B:Ky X.K E f r) (u:SE X E o m) (G:SA X E (e::es) ms)
  (W:o_ o name X.env (hS o X.env)=hS o X.env:=by rfl)
  (R:((pa pos (ee (e::es) X.env)).all (fun x=> !x.1) && (backToKw pos (keywordEach [] X.env)).all (fun x=>x.1.isSome)
   && decide ((e::es).length+([]:List RJ).length+(if ([]:List RJ).isEmpty then 0 else 1)<30))=true:=by rfl)
  (U:(Y.endLine==pos.line)=true:=by rfl) (hs:ee (e::es) X.env=(dV,hS e X.env)::ee es X.env:=by rfl) (Z:(pa pos (ee es X.env)).any (·.1)=false:=by rfl):
  SE X E (.Call (.Attribute o name Y) (e::es) [] pos) (fun ρ=>do let x<-m ρ;Ht x;let ds<-ms ρ;f x ds):=by
 refine PE.imp (JC PySem.F.plainAttrs_list T O A u G W R U hs Z) fun σ H Q h=>?_;obtain⟨ι,S,ρ,rep,re,c⟩:=h;refine⟨ι,S,ρ,rep,re,aD (aq c) fun x N S1 q e1 rep1 J v I=>?_⟩;cases x with
 |lst k=>
  obtain⟨p,rfl,s⟩:=I.lst_inv;obtain⟨vs,w⟩:=rep1.isL (M1 s);have C:=ao (aq J) .refl rep1;exact⟨Cm w,N,S1,ρ,rep1,re.later rep e1,aD (aq C) fun ds P S2 y e2 rep2 z vs t=>B P S2 y (.lst k) ds (.ref p) vs Q rep2 (I.later rep1 e2) t z⟩
 |_=>exact(aj (aq J)).elim
theorem xO:Ky X.K E c8 yI:=by
 intro ι S H d ds v vs Q rep r rs c;unfold c8 at c;split at c
 ·next k d=>
  obtain⟨p,rfl,Y⟩:=r.lst_inv;obtain⟨w,ws,rfl,R,W⟩:=rs.cons_inv;cases W.nil_inv;obtain⟨es,us,_,P,O,U⟩:=bH c rep Y;obtain⟨Z,T⟩:=jC U rep Y (O.append (.cons R .nil));rw[Mu]at Z;exact⟨p,us,w,rfl,rfl,P,MG (by simp at Z;omega) gX,T _ .non⟩
 ·exact(aj c).elim
def vW:V->List V->Hp->VK->Prop:=fun x vs H Q=>∃l b xs zs,x= .ref l/\vs=[.ref b]/\H l=ar (.lst xs)/\Rd H b (.lst zs)/\xs.length+zs.length<=sizeLine/\Q .non (upd H l (.lst (xs++zs)))
theorem xP:Lm X "list.extend" vW:=by
 intro pins s σ H x vs v us Q I T L h;obtain⟨l,b,xs,zs,rfl,rfl,U,P,K,q⟩:=h;cases T;obtain⟨u,rfl,S⟩:=L.one;cases S;obtain⟨z,its,n,r,J,e⟩:=I.lstM U;obtain⟨G,Z,R,N,O,e2⟩:=Inv.lstR I P;have W:its.toArray.size+Z.toArray.size<=sizeLine:=by rw[MB,MB];omega
 have Y:¬ (!its.toArray.isEmpty && vn (its.toArray.size+Z.toArray.size))=true:=by
  rw[BV W,P3];exact NT
 refine RT F.slot_list_extend ⟨_,e,rfl⟩ F.entry_list_extend (F.args_list_extend_2 _ _)
  (AutoSeq1.list_extend_list_list_0 l its.toArray n b Z.toArray R Y (by rw[MB];omega) (by omega)) ⟨e,e2,?_⟩
 refine⟨.non,_,I.lset (its':=its++Z) U e (by simp) (r.append N) ?_,rfl,q⟩
 rw[Mu];omega
theorem xQ:Ky X.K E m4 vW:=by
 intro ι S H d ds v vs Q rep r rs c;unfold m4 at c;split at c
 ·next k j=>
  obtain⟨p,rfl,Y⟩:=r.lst_inv;obtain⟨w,ws,rfl,P,W⟩:=rs.cons_inv;cases W.nil_inv;obtain⟨q,rfl,U⟩:=P.lst_inv;obtain⟨es,us,_,O,L,T⟩:=bH c rep Y;obtain⟨fs,ys,_,I,N,J⟩:=bH T rep U;obtain⟨Z,R⟩:=jC J rep Y (L.append N);rw[Mu]at Z;exact⟨p,q,us,ys,rfl,rfl,O,.inl I,ME Z gX,R _ .non⟩
 ·next k fs=>
  obtain⟨p,rfl,Y⟩:=r.lst_inv;obtain⟨w,ws,rfl,P,W⟩:=rs.cons_inv;cases W.nil_inv;obtain⟨q,o,ys,rfl,U,N⟩:=P.fz_inv;obtain⟨es,us,_,O,L,T⟩:=bH c rep Y;obtain⟨Z,R⟩:=jC T rep Y (L.append N);rw[Mu]at Z;exact⟨p,q,us,ys,rfl,rfl,O,.inr ⟨o,U⟩,ME Z gX,R _ .non⟩
 ·exact(aj c).elim
theorem AI:Ky X.K E nX BW:=by
 intro ι S H d ds v vs Q rep r rs c;unfold nX at c;split at c
 ·next k i=>
  obtain⟨p,rfl,W⟩:=r.lst_inv;obtain⟨w,ws,rfl,I,L⟩:=rs.cons_inv;cases L.nil_inv;rw[I.int_inv];obtain⟨es,us,N,G,P,Z⟩:=bH c rep W;split at Z
  ·next hb=>
   cases q:es[i.toNat]? with
   |none=>rw[q]at Z;exact(aj Z).elim
   | some y=>
    rw[q]at Z;obtain⟨F,U,T⟩:=P.get' q;have hlen:=P.length;have J:Ext ι H ι (upd H p (.lst (us.eraseIdx i.toNat))):=um (M1 W);have Y:=RelDs.eraseIdx i.toNat P;have O:=jC (aq Z) rep W Y;have R:us.length<=lim+1:=by
     have:=O.1;rw[List.length_eraseIdx]at this;split at this<;>omega
    refine⟨p,us,i,i.toNat,F,rfl,rfl,G,by omega,by unfold lim at R;omega,?_,U,?_⟩
    ·unfold Rw;simp only[show ¬ i<0 by omega,if_false]
     first|(rw[if_pos (by omega)])|(rw[if_pos (by simp;omega)])|(simp;omega)
    ·exact ao O.2 .refl (uo rep W Y) _ (T.later rep J)
  ·exact(aj Z).elim
 ·exact(aj c).elim
theorem iF{Z:Pos}(T:SE X E o m)(U:SE X E e n)
  (W:o_ o "append" X.env (hS o X.env)=hS o X.env:=by rfl)
  (Y:(Z.endLine==pos.line)=true:=by rfl) (hs:ee [e] X.env=[(dV,hS e X.env)]:=by rfl):
  SE X E (.Call (.Attribute o "append" Z) [e] [] pos) (fun ρ=>do let x<-m ρ;Ht x;let ds<-(do let y<-n ρ;let ys<-aC [];aC (y::ys));c8 x ds):=
 uz PySem.F.slot_list_append PySem.F.type_list_append sL xO T (af U ai hs) W (by rw[hs];rfl) Y hs rfl
theorem AJ{Z:Pos}(T:SE X E o m)(U:SE X E e n)
  (W:o_ o "extend" X.env (hS o X.env)=hS o X.env:=by rfl)
  (Y:(Z.endLine==pos.line)=true:=by rfl) (hs:ee [e] X.env=[(dV,hS e X.env)]:=by rfl):
  SE X E (.Call (.Attribute o "extend" Z) [e] [] pos) (fun ρ=>do let x<-m ρ;Ht x;let ds<-(do let y<-n ρ;let ys<-aC [];aC (y::ys));m4 x ds):=
 uz PySem.F.slot_list_extend PySem.F.type_list_extend xP xQ T (af U ai hs) W (by rw[hs];rfl) Y hs rfl
theorem Cn{Z:Pos}(T:SE X E o m)(U:SE X E e n)
  (W:o_ o "pop" X.env (hS o X.env)=hS o X.env:=by rfl)
  (Y:(Z.endLine==pos.line)=true:=by rfl) (hs:ee [e] X.env=[(dV,hS e X.env)]:=by rfl):
  SE X E (.Call (.Attribute o "pop" Z) [e] [] pos) (fun ρ=>do let x<-m ρ;Ht x;let ds<-(do let y<-n ρ;let ys<-aC [];aC (y::ys));nX x ds):=
 uz PySem.F.slot_list_pop PySem.F.type_list_pop BX AI T (af U ai hs) W (by rw[hs];rfl) Y hs rfl
theorem AK:Ls X.K E kE FY:=by
 intro ι S H J I L v1 v2 G Q rep O T U c;unfold kE at c;split at c
 ·next k j=>
  obtain⟨p,rfl,Y⟩:=O.lst_inv;obtain⟨es,us,_,P,W,Z⟩:=bH c rep Y;cases q:As es.length j with
  |none=>rw[q]at Z;exact(aj Z).elim
  |some at'=>
   rw[q]at Z;obtain⟨N,R⟩:=jC (aq Z) rep Y (RelDs.set U at' W);refine⟨p,us,j,at',rfl,T.int_inv,P,by rw[<-W.length];exact q,?_⟩
   exact ao R .refl (uo rep Y (RelDs.set U at' W))
 ·exact(aj c).elim
theorem yT(J:SE X E o m)(hi:SE X E i n)(U:∀v,QK (.Subscript o i pos) X.env v=(do
   let ov<-A' [v] (hS o X.env);let iv<-A' [v,ov] (hS i X.env)
   Sa pos
   A' [v,ov,iv] (SH ov iv v)
   release [v,ov,iv] []):=by intro _;rfl):SG X E (.Subscript o i pos) (fun d ρ=>do let x<-m ρ;let y<-n ρ;kE x y d;aC ρ):=by
 refine PG.imp (GO J hi set_list U) fun v σ H Q h=>?_;obtain⟨ι,S,ρ,d,rep,re,r,c⟩:=h;refine⟨ι,S,ρ,rep,re,aD (aq c) fun x W S1 G e1 rep1 N v1 K=>?_⟩;refine⟨W,S1,ρ,rep1,re.later rep e1,aD (aq N) fun y Z S2 L e2 rep2 T v2 I=>?_⟩;have Y:=(re.later rep e1).later rep1 e2;refine AK (E:=E) Z S2 L x y d v1 v2 v _ rep2 (K.later rep1 e2) I ((r.later rep e1).later rep1 e2) (aD (aq T) fun _ R F C P rep3 O=>?_);exact ao O .refl rep3 σ (Y.later rep2 P)
def bu(lo:Int)(n:Nat):List D:=(eb n).map fun i=>.int (lo+(i:Nat))
def mw:List D->M Iter
 |[.int j]=>if -(2 ^ 62)<=j/\j<2 ^ 62 then aC ⟨bu 0 j.toNat,.none⟩else M.fail
 |_=>M.fail
def lh:List D->M Iter
 |[.int i,.int j]=>if -(2 ^ 62)<=i/\i<2 ^ 62/\ -(2 ^ 62)<=j/\j<2 ^ 62 then aC ⟨bu i (j - i).toNat,.none⟩else M.fail
 |_=>M.fail
theorem m5{K:d_}{lo:Int}{n:Nat}{ι:List dt}{H:Hp}:kF K ⟨bu lo n,.none⟩ (Jk lo n) ι H:=by
 intro Y T S2 e rep ok i;refine⟨fun d hd=>?_,fun h=>?_⟩
 ·have Z:((eb n)[i]?).map (fun i:Nat=>D.int (lo+(i:Nat)))=ar d:=by
   have:(bu lo n)[i]? =ar d:=hd;unfold bu at this;rw[MO]at this;exact this
  have hi:i<n:=by
   by_cases h:i<n
   ·exact h
   ·rw[Nw (by simp;omega)]at Z;cases Z
  rw[OS hi]at Z;cases Z;exact⟨hi,fun x S U=>by obtain⟨rfl,rfl⟩:=U;exact⟨.refl,rep,.int _⟩⟩
 ·have h':(bu lo n).length<=i:=h;unfold bu at h';rw[Mq,MR]at h';exact h'
theorem cU(U:X.mg "range"=none)(Y:SE X E a m)(P:Gl X "range":=by rfl)(hs:ee [a] X.env=[(dV,hS a X.env)]:=by rfl):
  SI X E tg (.Call (.Name "range" p) [a] [] pos) (fun ρ=>do let ds<-(do let x<-m ρ;let xs<-aC [];aC (x::xs));mw ds):=by
 intro pins s σ H R I h;refine Aj P U (af Y ai hs) hs pins s σ H R I ?_;obtain⟨ι,S,ρ,rep,re,c⟩:=h;refine⟨ι,S,ρ,rep,re,aD (aq c) fun ds T S1 O e1 rep1 Z vs r=>?_⟩;unfold mw at Z;split at Z
 ·next j=>
  obtain⟨w,ws,rfl,Q,W⟩:=r.cons_inv;cases W.nil_inv;split at Z
  ·next hb=>rw[Q.int_inv];exact⟨j,rfl,hb.1,hb.2,ao Z .refl rep1 _ m5⟩
  ·exact(aj Z).elim
 ·exact(aj Z).elim
theorem sR(O:X.mg "range"=none)(U:SE X E a m)(W:SE X E b n)(K:Gl X "range":=by rfl)(hs:ee [a,b] X.env=[(dV,hS a X.env),(dV,hS b X.env)]:=by rfl)(Z:ee [b] X.env=[(dV,hS b X.env)]:=by rfl):
  SI X E tg (.Call (.Name "range" p) [a,b] [] pos) (fun ρ=>do let ds<-(do let x<-m ρ;let xs<-(do let y<-n ρ;let ys<-aC [];aC (y::ys));aC (x::xs));lh ds):=by
 intro pins s σ H R I h;refine Ak K O (af U (af W ai Z) (by rw[hs,Z])) hs Z pins s σ H R I ?_
 obtain⟨ι,S,ρ,rep,re,c⟩:=h;refine⟨ι,S,ρ,rep,re,aD (aq c) fun ds N S1 G e1 rep1 Y vs r=>?_⟩;unfold lh at Y;split at Y
 ·next i j=>
  obtain⟨w,ws,rfl,L,P⟩:=r.cons_inv;obtain⟨F,T,rfl,Q,J⟩:=P.cons_inv;cases J.nil_inv;split at Y
  ·next W=>rw[L.int_inv,Q.int_inv];exact⟨i,j,rfl,W,ao Y .refl rep1 _ m5⟩
  ·exact(aj Y).elim
 ·exact(aj Y).elim
def JK:D->M Iter
 | .lst k=>do let xs<-getL k;aC ⟨xs,.some k⟩
 | .tup ds=>aC ⟨ds,.none⟩
 | .ro ds=>aC ⟨ds,.none⟩
 | .fz ds=>aC ⟨ds,.none⟩
 |_=>M.fail
theorem vX{K:d_}{k:Nat}{a:dt}{xs:List D}{ι:List dt}{H:Hp}(Q:ι[k]? =ar a):kF K ⟨xs,.some k⟩ (Ku K a) ι H:=by
 intro S P S2 e rep ok i;obtain⟨vs,Y,T⟩:=rep.get k a xs (e.at Q) ok;refine⟨fun d hd=>?_,fun h=>⟨vs,.of Y,by rw[<-T.length];exact h⟩⟩
 obtain⟨v,U,R⟩:=T.get' hd;refine⟨⟨vs,v,.of Y,U⟩,fun x O Z=>?_⟩;obtain⟨rfl,Z⟩:=Z;have:=Z vs (.of Y);rw[U]at this;cases this;exact⟨.refl,rep,R⟩
theorem xR{K:d_}{a:dt}{ds:List D}{vs:List V}{ι:List dt}{S:aF}{H:Hp}(Y:Rep K ι H S)(T:H a=ar (.tup vs))(r:RelDs K ι H ds vs):kF K ⟨ds,.none⟩ (Lc K a) ι H:=by
 intro Q N S2 e rep2 ok i;have Z:=(e.oth a _ T (Y.notIn T (by intro _ z;cases z)) (by intro _ z;cases z) (by intro _ z;cases z)).1
 have P:=r.laterN Y e;refine⟨fun d hd=>?_,fun h=>⟨vs,.of Z,by rw[<-r.length];exact h⟩⟩
 obtain⟨v,R,O⟩:=P.get' hd;refine⟨⟨vs,v,.of Z,R⟩,fun x L U=>?_⟩;obtain⟨rfl,U⟩:=U;have:=U vs (.of Z);rw[R]at this;cases this;exact⟨.refl,rep2,O⟩
theorem sS{K:d_}{a:dt}{ds:List D}{vs:List V}{ι:List dt}{S:aF}{H:Hp}(Z:Rep K ι H S)(P:D8 K H a vs)(r:RelDs K ι H ds vs):kF K ⟨ds,.none⟩ (Ku K a) ι H:=by
 intro Q R S2 e rep2 ok i;have U:D8 K R a vs:=P.imp (fun⟨o,h⟩=>⟨o,(e.oth a _ h (Z.notIn h (by intro _ z;cases z)) (by intro _ z;cases z) (by intro _ z;cases z)).1⟩) fun z=>z
 have O:=r.laterN Z e;have sq:kY K R a vs:=U.sq;refine⟨fun d hd=>?_,fun h=>⟨vs,sq,by rw[<-r.length];exact h⟩⟩
 obtain⟨v,T,N⟩:=O.get' hd;refine⟨⟨vs,v,sq,T⟩,fun x L Y=>?_⟩;obtain⟨rfl,Y⟩:=Y;have:=Y vs sq;rw[T]at this;cases this;exact⟨.refl,rep2,N⟩
theorem iK(Q:SE X E e m):SI X E tg e (fun ρ=>do let x<-m ρ;JK x):=by
 intro pins s σ H R I h;obtain⟨ι,S,ρ,rep,re,c⟩:=h;obtain⟨r,T,P,k⟩:=id (aq c);cases r with
 |ex x=>
  refine mM Q pins s σ H R I ⟨ι,S,ρ,rep,re,.ex x,T,P,k⟩
 | ok d=>
  cases d with
  |tup ds=>
   refine GU Q pins s σ H R I ⟨ι,S,ρ,rep,re,.ok (.tup ds),T,P,fun Z W e1 rep1 v U=>?_⟩;obtain⟨p,vs,rfl,Y,O⟩:=U.tup_inv;exact⟨p,rfl,⟨vs,.of Y⟩,ao (k Z W e1 rep1) .refl rep1 _ (xR rep1 Y O)⟩
  |lst j=>
   refine mM Q pins s σ H R I ⟨ι,S,ρ,rep,re,.ok (.lst j),T,P,fun Z W e1 rep1 v U=>?_⟩;obtain⟨p,rfl,Y⟩:=U.lst_inv;obtain⟨es,us,_,N,K,L⟩:=bH (k Z W e1 rep1) rep1 Y;exact⟨p,rfl,⟨us,.of N⟩,ao L .refl rep1 _ (vX Y)⟩
  |ro ds=>
   refine mM Q pins s σ H R I ⟨ι,S,ρ,rep,re,.ok (.ro ds),T,P,fun Z W e1 rep1 v U=>?_⟩;obtain⟨p,vs,rfl,Y,O⟩:=U.ro_inv;exact⟨p,rfl,⟨vs,Y.sq⟩,ao (k Z W e1 rep1) .refl rep1 _ (sS rep1 Y O)⟩
  |fz ds=>
   refine mM Q pins s σ H R I ⟨ι,S,ρ,rep,re,.ok (.fz ds),T,P,fun Z W e1 rep1 v U=>?_⟩;obtain⟨p,o,vs,rfl,Y,O⟩:=U.fz_inv;exact⟨p,rfl,⟨vs,.inl (.inr ⟨o,Y⟩)⟩,ao (k Z W e1 rep1) .refl rep1 _ (sS rep1 (.inl ⟨o,Y⟩) O)⟩
  |_=>exact mM Q pins s σ H R I ⟨ι,S,ρ,rep,re,.ok _,T,P,fun Z W e1 rep1 v U=>(aj (k Z W e1 rep1)).elim⟩
theorem vY:ef X (.type "range") (fun xs H Q=>∃j,xs=[.int j]/\∀p,H p=none->Q (.ref p) (upd H p (.rng 0 j))):=by
 intro pins s σ H xs us Q I r h;obtain⟨j,rfl,q⟩:=h;obtain⟨u,rfl,Z⟩:=vals1 r;obtain⟨t,rfl⟩:=(show ∃t,u=pd j t from Z);refine call_range_1 ⟨.ref s.heap.objs.size,_,I.laid (o:=.rng 0 j) (fun b o e=>Mp _ e) (Ms _) ⟨_,_,_,Mz _ rfl⟩,rfl,q _ (I.hok.fresh (Ms _))⟩
theorem sd(O:X.calm=b_):ef X (.type "list") (fun xs H Q=>∃(p:dt) (j:Int),xs=[.ref p]/\H p=ar (.rng 0 j)/\ -(2 ^ 62)<=j/\j<=lim/\∀l,H l=none->Q (.ref l) (upd H l (.lst ((eb j.toNat).map fun i:Nat=>V.int (i:Nat))))):=by
 intro pins s σ H xs us Q I r h;obtain⟨p,j,rfl,N,G,P,q⟩:=h;obtain⟨u,rfl,T⟩:=vals1 r;cases (show u=ey p from T);obtain⟨t,u,v,L⟩:=(show bB X.prog X.w H s.heap p (.rng 0 j)from I.hok p _ N);have U:Builtin.Range.rangeSize 0 j 1=(j.toNat:Int):=by rw[rangeSize_one];split<;>omega
 have Z:j.toNat<=lim:=by omega
 refine call_list_range (I.ok.hd O) L (small_one (by omega) (by omega) G (by unfold lim at P;omega)) U (by unfold lim at Z;omega) fun h' S acc K R J hit=>?_
 refine⟨.ref s.heap.objs.size,_,I.laid (t':=S) R (Ms _) (o:=.lst ((eb j.toNat).map fun i:Nat=>V.int (i:Nat))) ?_,rfl,q _ (I.hok.fresh (Ms _))⟩;refine⟨by rw[Mq,MR];exact ME Z gX,acc.toList,K,?_,by simpa using J⟩
 obtain⟨hs,hi⟩:=hit;have gen:∀(l:List a_) (f:Nat->Int),(∀i v,l[i]? =ar v->∃t,v=pd (f i) t)->bw ((eb l.length).map fun i:Nat=>V.int (f i)) l:=by
  intro l
  induction l with
  |nil=>intro f _;exact .nil
  |cons x l ih=>
   intro f hf;rw[MW,List.range_succ_eq_map,MU,MZ];obtain⟨t,Y⟩:=hf 0 x rfl;refine .cons ⟨t,Y⟩ ?_;exact ih (fun i=>f (i+1)) fun i v W=>hf (i+1) v (by simpa using W)
 have:=gen acc.toList (fun i=>(i:Int)) fun i v W=>by
  obtain⟨t,Y⟩:=hi i v (by simpa using W)
  exact⟨t,by rw[Y];congr 1;omega⟩
 rw[Of,hs]at this;exact this
def bY:List D->M D
 |[.int j]=>if -(2 ^ 62)<=j/\j<=lim then bD (bu 0 j.toNat)else M.fail
 |_=>M.fail
theorem qp{K:d_}{ι:List dt}{H:Hp}:∀(l:List Nat),RelDs K ι H (l.map fun i:Nat=>D.int (0+(i:Nat))) (l.map fun i:Nat=>V.int (i:Nat))
 |[]=>.nil
 |x::l=>.cons (by show RelD K ι H (D.int (0+(x:Int))) (V.int (x:Int));rw[Pi];exact .int _) (qp l)
theorem iq(K:X.calm=b_)(N:X.mg "list"=none)(W:X.mg "range"=none)(R:SE X E a m)(J:Gl X "list":=by rfl)(U:Gl X "range":=by rfl)(hs:ee [a] X.env=[(dV,hS a X.env)]:=by rfl)
  (Y:ee [.Call (.Name "range" q) [a] [] pos2] X.env=[(dV,hS (.Call (.Name "range" q) [a] [] pos2) X.env)]:=by rfl):
  SE X E (.Call (.Name "list" p) [.Call (.Name "range" q) [a] [] pos2] [] pos) (fun ρ=>do let ds<-(do let x<-m ρ;let xs<-aC [];aC (x::xs));bY ds):=by
 refine PE.imp (kZ (sd K) J N (by decide+kernel) (fN (kZ vY U W (by decide+kernel) (af R ai hs) (by decide) (by decide) hs rfl) ku Y) (by decide) (by decide) Y rfl) fun σ H Q h=>?_
 obtain⟨ι,S,ρ,rep,re,c⟩:=h;refine⟨ι,S,ρ,rep,re,aD (aq c) fun ds L S1 G e1 rep1 Z vs r=>?_⟩;unfold bY at Z;split at Z
 ·next j=>
  obtain⟨w,ws,rfl,I,O⟩:=r.cons_inv;cases O.nil_inv;split at Z
  ·next hb=>
   rw[I.int_inv];refine⟨j,rfl,fun p T=>?_⟩;have rep2:=gH (o:=.rng 0 j) rep1 T;refine⟨p,j,rfl,aX,hb.1,hb.2,?_⟩;have P:=iH Z (fO (o:=.rng 0 j) T);exact(bJ P rep2 (qp (eb j.toNat))).2
  ·exact(aj Z).elim
 ·exact(aj Z).elim
end
section
variable {X:Cx}{E:XD}{a b c d e:Expr}{m n l k:TM}{pos p2:Pos}
theorem Co:SE X E (.Dict [] [] pos) (fun _=>aC .emp):=by
 intro pins s σ H Q I h;obtain⟨ι,S,ρ,rep,re,Y⟩:=h;have big:RL<s.heap.objs.size:=PV (by decide) (I.mod.glob.keeps I.bk).lt
 have hf:H s.heap.objs.size=none:=I.hok.fresh (Ms _);have Z:bB X.prog X.w (upd H s.heap.objs.size (.dK [])) (s.heap.push {cls:=.type "dict",data:=.dict #[]}) s.heap.objs.size (.dK []):=⟨ML _,beq_eq_false_iff_ne.mpr (kr (MD big)),[],.nil,Heap.DictOf.new s.heap⟩;refine wpAny_Dict_empty ⟨.ref s.heap.objs.size,upd H s.heap.objs.size (.dK []),I.laid (t':=s.toks) (fun _ _ q=>Mp _ q) (Ms _) Z,rfl,?_⟩;exact ao Y (fO hf) (gH rep hf) _ (.emp aX)
end
theorem xS(n:Nat):j' ((n:Int) - 1) (-1) (-1)=n:=by
 unfold j';rw[if_neg (by omega)]
 by_cases h:((n:Int) - 1)> -1
 ·rw[if_pos h];have:((n:Int) - 1 - -1 - 1) / (- -1)+1=n:=by
   rw[show(- -1:Int)=1 by omega,Int.ediv_one];omega
  rw[this];omega
 ·rw[if_neg h];omega
theorem Cp(xs:Array a_):((eb xs.size).filterMap fun(k:Nat)=>xs[(((xs.size:Int) - 1)+(k:Int)*(-1)).toNat]?)=xs.toList.reverse:=by
 have W:∀k∈eb xs.size,xs[(((xs.size:Int) - 1)+(k:Int)*(-1)).toNat]? =xs.toList.reverse[k]? :=fun k Z=>by
  have Y:k<xs.size:=MC.mp Z;rw[List.getElem?_reverse (by simpa using Y),MV]
  congr 1;simp;omega
 have U:∀l:List Nat,(∀k∈l,xs[(((xs.size:Int) - 1)+(k:Int)*(-1)).toNat]? =xs.toList.reverse[k]?)->(l.filterMap fun(k:Nat)=>xs[(((xs.size:Int) - 1)+(k:Int)*(-1)).toNat]?)=l.filterMap fun k=>xs.toList.reverse[k]? :=by
  intro l
  induction l with
  |nil=>intro _;rfl
  |cons k l ih=>
   intro Z;rw[Nb,Nb,Z k MH,ih fun X h'=>Z X (My _ h')]
 rw[U _ W];have:=OM xs.toList.reverse;simpa using this
section
variable {X:Cx}{E:XD}{e:Expr}{m:TM}{te:TE}{pos p1 p2 p3:Pos}{j:Nat}
theorem Hu(L:PE X e te):PE X (.Subscript e (.Slice none none (ar (.UnaryOp .USub (.Constant (.int 1) j p1) p3)) p2) pos)
  (fun σ H Q=>te σ H fun x U=>∃a xs,x= .ref a/\lJ X.K U a xs/\∀p,U p=none->Q (.ref p) (upd U p (.tup xs.reverse))):=by
 intro pins s σ H Q I h;refine RS (eJ (L pins s σ H _ I h) fun v s1 ⟨x,U,I1,r1,a,xs,ex,hx,q⟩=>?_);subst ex;cases r1;refine wpAny_Slice ?_;rw[Q_];refine Mr (Mr (eJ (yG (FV BI (xo (X:=X) (i:=1) (j:=j) (pos:=p1))) pins s1 σ U (fun o P=>o=ar (-1)/\P=U) I1 ⟨1,rfl, -1,rfl,rfl,rfl⟩) fun vs s2 ⟨o,P,I2,pt,eo,eH⟩=>?_));subst eo eH;have S:Inv X pins σ P {s2 with heap:=s2.heap.push {cls:=.type "slice",data:=.fields #[.none,.none,vs]}}:=I2.kept (t':=s2.toks) fun b N q=>Mp _ q;generalize hs3:({s2 with heap:=s2.heap.push {cls:=.type "slice",data:=.fields #[.none,.none,vs]}}:c_)=s3 at S;have W:s3.heap.get? s2.heap.objs.size=ar {cls:=.type "slice",data:=.fields #[.none,.none,vs]}:=by rw[<-hs3];exact Mz _ rfl
 obtain⟨its,r,T,O⟩:=S.tuple hx;have hlen:its.toArray.size=xs.length:=by rw[MB];exact r.length.symm
 have R:s3.TypeIs (.ref s2.heap.objs.size) "slice":=⟨_,W,rfl⟩;have fin:EP X pins σ Q (.ref s3.heap.objs.size) {s3 with heap:=s3.heap.push {cls:=.type "tuple",data:=.seq its.reverse.toArray}}:=
  ⟨.ref s3.heap.objs.size,_,S.laid (t':=s3.toks) (o:=.tup xs.reverse) (fun b N q=>Mp _ q) (Ms _) ⟨by rw[PF];exact O,_,r.reverse,QY _ _⟩,rfl,q _ (S.hok.fresh (Ms _))⟩
 refine Sk (ops:=[.ref a,.ref s2.heap.objs.size]) T.typeIs PyProof.Rows.slot_tuple_getitem.lookup ?_ (by with_unfolding_all rfl)
 unfold Q3
 try with_reducible refine Nd ?_
 first|refine Mo (Mr ?_)|skip
 refine Mo (Qb T.typeIs (by decide) ?_)
 refine Mo (wpAny_callSpecial?_slot (name:=hY "__getitem__") T.typeIs Nl
  (Ng Nl T.typeIs PC ?_ (PU _ _)))
 show er _ _ (t_ (.ref a)>>=_) _ _ s3;refine Mo (Q9 T (Mo (Ow R ?_)));rw[if_pos (by decide)]
 unfold t9 Builtin.Slice.sliceFields;refine Mo (Mo (Mo (Ni W rfl (x:=.none) rfl (Mo (Ni W rfl (x:=.none) rfl (Mo (Ni W rfl (x:=vs) rfl (Mr ?_))))))));refine Mo (HT.slicePart_ pt ?_);show er _ _ (if ((-1:Int)==0)=b_ then _ else _) _ _ s3;rw[if_neg (by decide)]
 refine Mo (HT.slicePart_ .none (Mo (HT.slicePart_ .none (Mo (Mr ?_)))));show er _ _ (aC (((its.toArray.size:Int) - 1),(-1:Int),j' ((its.toArray.size:Int) - 1) (-1) (-1))) _ _ s3;rw[xS];refine Mr ?_;show er _ _ (if (((its.toArray.size:Int) - 1)==0 && (-1:Int)==1 && its.toArray.size==its.toArray.size)=b_ then _ else _) _ _ s3;rw[if_neg (by simp)]
 rw[Cp];have Y:sizeOk (.seq its.toArray.toList.reverse.toArray):=by
  show its.toArray.toList.reverse.toArray.size<=sizeLine;simp only[mu,List.length_reverse,u5];rw[<-r.length];exact O
 have Z:EP X pins σ Q (.ref s3.heap.objs.size) {s3 with heap:=s3.heap.push {cls:=.type "tuple",data:=.seq its.toArray.toList.reverse.toArray}}:=by simpa using fin
 first
  |exact Mo (m:=j3 _) (M0 (Mr ⟨_,rfl,Mr Z⟩) Y)
  |exact Mo (m:=j3 _) (M0 (Mo (Mr (Mr ⟨_,rfl,Mr Z⟩))) Y)
  |exact Mo (Mo (m:=j3 _) (M0 (Mr (Mr ⟨_,rfl,Mr Z⟩)) Y))
  |exact Mo (Mo (m:=j3 _) (M0 (Mr ⟨_,rfl,Mr Z⟩) Y))
def Hv:D->M D
 | .tup xs=>bK xs.reverse
 |_=>M.fail
theorem Cq(U:SE X E e m):SE X E (.Subscript e (.Slice none none (ar (.UnaryOp .USub (.Constant (.int 1) j p1) p3)) p2) pos) (fun ρ=>do let x<-m ρ;Hv x):=by
 refine PE.imp (Hu U) fun σ H Q h=>?_;obtain⟨ι,S,ρ,rep,re,c⟩:=h;refine⟨ι,S,ρ,rep,re,aD (aq c) fun x T S1 R e1 rep1 Z v r=>?_⟩;cases x with
 |tup ds=>
  obtain⟨p,vs,rfl,Y,W⟩:=r.tup_inv;exact⟨p,vs,rfl,.of Y,(gx Z rep1 W.reverse).2⟩
 |_=>exact(aj Z).elim
end
def insI(x:Int):List Int->List Int
 |[]=>[x]
 |y::r=>if x<=y then x::y::r else y::insI x r
def sortI:List Int->List Int
 |[]=>[]
 |x::r=>insI x (sortI r)
theorem insI_perm(x:Int):∀l,(insI x l).Perm (x::l)
 |[]=>.refl _
 |y::r=>by
  unfold insI;split
  ·exact .refl _
  ·exact(EA y (insI_perm x r)).trans (List.Perm.swap x y r)
theorem sortI_perm:∀l,(sortI l).Perm l
 |[]=>.refl _
 |x::r=>(insI_perm x _).trans (EA x (sortI_perm r))
theorem oC(x:Int):∀{l:List Int},l.Pairwise (· <=·)->(insI x l).Pairwise (· <=·)
 |[],_=>by simp[insI]
 | y::r,h=>by
  obtain⟨Y,X⟩:=Nn.mp h;unfold insI;split
  ·next c=>
   refine Nn.mpr ⟨fun z Z=>?_,h⟩;rcases MK.mp Z with rfl|Z
   ·exact c
   ·exact Int.le_trans c (Y z Z)
  ·next c=>
   refine Nn.mpr ⟨fun z Z=>?_,oC x X⟩;rcases MK.mp ((insI_perm x r).mem_iff.mp Z)with rfl|Z
   ·omega
   ·exact Y z Z
theorem fj:∀l,(sortI l).Pairwise (· <=·)
 |[]=>.nil
 |x::r=>oC x (fj r)
section
variable {X:Cx}{E:XD}{e:Expr}{m:TM}{pos:Pos}
theorem uA:ef X (.builtin "sorted") (fun xs H Q=>∃(p:dt) (ns:List Int),xs=[.ref p]/\kY X.K H p (ns.map V.int)/\ns.length<64/\∀l,H l=none->Q (.ref l) (upd H l (.lst ((sortI ns).map V.int)))):=by
 intro pins s σ H xs us Q I r h;obtain⟨p,ns,rfl,P,N,q⟩:=h;obtain⟨u,rfl,U⟩:=vals1 r;cases (show u=ey p from U);obtain⟨its,Y,S,L⟩:=I.list P;have R:n7 its ns:=PB Y;have hlen:=Y.length;rw[Mq]at hlen;refine sorted_ints S.isList R (by omega) fun out Z a1 a2 T=>?_
 have en:Z=sortI ns:=W.lks_uniq (a2.trans (sortI_perm ns).symm) T (fj ns);subst en;obtain⟨c,O⟩:=sortedAll_at s.heap its out;have hf:H (s.heap.objs.size+1)=none:=I.hok.fresh (Og _);refine⟨.ref (s.heap.objs.size+1),_,I.laid (t':=s.toks) (o:=.lst ((sortI ns).map V.int)) (fun b o e=>sortedAll_old e) (Og _) ⟨?_,out.toList,c,jA a1,O⟩,rfl,q _ hf⟩;rw[Mq,(sortI_perm ns).length_eq,Nq];omega
theorem m6{K:d_}{ι:List dt}{H:Hp}:∀ns:List Int,RelDs K ι H (ns.map D.int) (ns.map V.int)
 |[]=>.nil
 |n::r=>.cons (.int n) (m6 r)
end
end S3
namespace S3
open PySem PySem.Spec PySem.W PyProof.Rows L2
theorem qr{h:gd}:∀{vs:List a_},(∀v∈vs,∃a o us n i t,v= .ref a/\h.get? a=ar o/\o.cls= .type "tuple"/\o.data= .seq us n/\us[0]? =ar (pd i t))->
  ∃fs,KatTups h vs fs/\fs.length=vs.length/\∀f∈fs,∃i t,f=pd i t
 |[],_=>⟨[],.nil,rfl,fun _ z=>nomatch z⟩
 |v::vs,hv=>by
  obtain⟨a,o,us,n,i,t,rfl,e1,e2,Z,Y⟩:=hv v MH;obtain⟨fs,k1,k2,k3⟩:=qr fun X h'=>hv X (My _ h');refine⟨_::fs,.cons e1 e2 Z Y k1,by simp[k2],fun f hf=>?_⟩
  rcases MK.mp hf with rfl|hf
  ·exact⟨i,t,rfl⟩
  ·exact k3 f hf
theorem lj:∀ns:List Int,HT.lexLt ns ns=dV
 |[]=>rfl
 |n::r=>by rw[HT.lexLt_cons,if_pos rfl];exact lj r
theorem xT:∀{a b c:List Int},HT.lexLt a b=b_->HT.lexLt b c=b_->HT.lexLt a c=b_
 |[],[],c,h,_=>by cases h
 |[],_::_,[],_,h=>by cases h
 |[],_::_,_::_,_,_=>rfl
 |_::_,[],c,h,_=>by cases h
 |_::_,_::_,[],_,h=>by cases h
 | x::a,y::b,z::c,h1,h2=>by
  rw[HT.lexLt_cons]at h1 h2⊢;split at h1
  ·next e=>
   subst e;split at h2
   ·next e2=>subst e2;rw[if_pos rfl];exact xT h1 h2
   ·next e2=>rw[if_neg e2];exact h2
  ·next e=>
   have Y:x<y:=Nm h1;split at h2
   ·next e2=>subst e2;rw[if_neg e];exact h1
   ·next e2=>
    have Z:y<z:=Nm h2;rw[if_neg (by omega)];exact MF (by omega)
theorem uB:∀{a b c:List Int},HT.lexLt a c=b_->HT.lexLt a b=b_\/HT.lexLt b c=b_
 |a,b,[],h=>by cases a<;>cases h
 |[],[],_::_,_=>.inr rfl
 |[],_::_,_::_,_=>.inl rfl
 |_::_,[],_::_,_=>.inr rfl
 | x ::a,y::b,z::c,h=>by
  rw[HT.lexLt_cons]at h;rw[HT.lexLt_cons,HT.lexLt_cons];split at h
  ·next e=>
   subst e;by_cases e2:x=y
   ·subst e2;rw[if_pos rfl,if_pos rfl];exact uB h
   ·rw[if_neg e2,if_neg (kr e2)];rcases Int.lt_or_gt_of_ne e2 with l|l
    ·exact .inl (MF l)
    ·exact .inr (MF l)
  ·next e=>
   have h':x<z:=Nm h;by_cases e2:x=y
   ·subst e2;rw[if_neg e];exact .inr (MF h')
   ·rw[if_neg e2];by_cases l:x<y
    ·exact .inl (MF l)
    ·refine .inr ?_;rw[if_neg (by omega)];exact MF (by omega)
theorem Cr(x:bB P w H h a o):∃Z,h.get? a=ar Z:=by
 cases o with
 |lst xs=>obtain⟨_,_,_,_,e⟩:=x;exact⟨_,e⟩
 |tup xs=>obtain⟨_,_,_,Z,e,_⟩:=x;exact⟨_,e⟩
 |dK kvs=>obtain⟨_,_,_,_,o,_,_,e,_⟩:=x;exact⟨_,e⟩
 |dT kvs=>obtain⟨_,_,_,_,o,_,_,e,_⟩:=x;exact⟨_,e⟩
 |set S n=>obtain⟨o,_,_,_,e,_⟩:=x;exact⟨_,e⟩
 |ins C dx fs=>obtain⟨_,_,_,e,_⟩:=x;exact⟨_,e⟩
 |own y=>exact x
 |xd fs=>obtain⟨_,⟨_,_,_,e,_⟩,_⟩:=x;exact⟨_,e⟩
 |rng lo hi=>obtain⟨_,_,_,e⟩:=x;exact⟨_,e⟩
 |frz Z u=>exact⟨_,x.1⟩
 |tbl ps=>exact⟨_,show h.get? a=ar _ from x⟩
 |met f y=>exact⟨_,show h.get? a=ar _ from x⟩
 |ext φ=>exact x.2.1
section
variable {X:Cx}{pins:List (dt×Obj)}{σ:L2.St}{H:Hp}{s:c_}
theorem xU{us:List a_}(I:L2.Inv X pins σ H s)(B:Fr X.base X.env.locals s.heap m)(F:Fr X.base X.env.locals h2 m)
  (U:∀b o,b≠X.env.locals->s.heap.get? b=ar o->h2.get? b=ar o) (S:s.heap.get? d=none) (L:h2.get? d=ar {cls:=.type "list",data:=.seq us.toArray n}) (C:bw ys us) (N:ys.length<=sizeLine):
  L2.Inv X pins σ (upd H d (.lst ys)) {s with heap:=h2}:=by
 have W:H d=none:=by
  cases e:H d with
  |none=>rfl
  |some o=>obtain⟨K,q⟩:=Cr (I.hok d o e);rw[S]at q;cases q
 have Y:∀b o,H b=ar o->b≠X.env.locals:=fun b o e z=>by rw[z,I.free]at e;cases e
 have old:∀b o,s.heap.get? b=ar o->b≠d:=fun b o e z=>by rw[z,S]at e;cases e
 refine I.step (g':=s.gens) (d':=s.drawn) (t':=s.toks) (ch:=[]) (fun _ z=>nomatch z) (fun b o Z _ _ e _=>U b o Z e) (fun b o Z _ _ e _=>⟨o.slots,U b o Z e⟩)
  (fun b o _ e n=>by rw[aK (old b o e)];exact n) (fun b o _ e=>?_) (fun b xs e=>by rw[aK (aR e W)];exact e) (fun b K u e=>by rw[aK (aR e W)];exact e)
  (fun b y e=>⟨#[],by rw[aK (aR e W),e];simp⟩) (fun O hm=>?_) (fun b u e=>?_) I.bare
 ·by_cases Z:b=X.env.locals
  ·obtain⟨Q,_,_,G,_⟩:=F.ns;exact⟨Q,by rw[Z];exact G⟩
  ·exact⟨o,U b o Z e⟩
 ·have:O=m:=by
   obtain⟨A,es,ep,e1,J,_,g1⟩:=hm;obtain⟨o2,P,E,e2,R,_,g2⟩:=B.ns;rw[e1]at e2;cases e2;rw[J]at R;cases R;funext x;rw[<-g1 x, <-g2 x]
  rw[this];exact F.ns
 ·by_cases Z:b=d
  ·subst Z;rw[aX]at e;cases e;exact⟨N,us,n,C,L⟩
  ·rw[aK Z]at e;refine(I.hok b u e).stay (fun c v T z=>U c v ?_ z) (fun c z=>by rw[aK (aR z W)];exact z) fun c xs z=>by rw[aK (aR z W)];exact z
   rcases T with rfl|T
   ·exact Y _ _ e
   ·exact Y _ _ T
end
section
variable {X:Cx}
end
end S3
namespace S4
open PySem PySem.SetTable
def tb(m:Nat):SetTable:=⟨m, #[], #[],0,b_,0,b_⟩
def cy(m:Nat)(h:Int):Nat->Probe
 |0=>(tb m).probeStart h
 |k+1=>(tb m).advance (cy m h k)
theorem Hw(t:l_)(h:Int)(k:Nat):t.advance (cy t.mask h k)=cy t.mask h (k+1):=rfl
theorem AL(t:l_)(p:Probe)(Z:p.dummy=none):(t.advance p).dummy=none:=by
 unfold Sd;split
 ·exact Z
 ·exact Z
theorem qt(m:Nat)(h:Int):∀k,(cy m h k).dummy=none
 |0=>rfl
 |k+1=>AL _ _ (qt m h k)
def gJ(m:Nat)(h:Int):Nat->Nat×Nat
 |0=>(Sl h % (m+1),Sl h)
 |n+1=>leap m (gJ m h n).1 (gJ m h n).2
def run(m i:Nat):Nat:=RW m i - i
theorem Hx(m i:Nat):run m i<=9:=by
 unfold run RW;split<;>omega
def rR(m:Nat)(h:Int):Nat->Nat
 |0=>0
 |n+1=>rR m h n+run m (gJ m h n).1+1
theorem Cs(m:Nat)(h:Int):∀n,rR m h n<=10*n
 |0=>Ms _
 |n+1=>by
  have:=Cs m h n;have:=Hx m (gJ m h n).1;show rR m h n+run m (gJ m h n).1+1<=10*(n+1);omega
theorem uC(m:Nat)(h:Int)(n:Nat)(e:cy m h (rR m h n)=⟨(gJ m h n).1,run m (gJ m h n).1,(gJ m h n).1,(gJ m h n).2,none⟩):
  ∀r,r<=run m (gJ m h n).1->cy m h (rR m h n+r)=⟨(gJ m h n).1+r,run m (gJ m h n).1 - r,(gJ m h n).1,(gJ m h n).2,none⟩
 |0,_=>e
 |r+1,hr=>by
  have Z:=uC m h n e r (by omega)
  show(tb m).advance (cy m h (rR m h n+r))=_;rw[Z];unfold Sd;simp only;rw[if_pos (by omega)]
  simp only[Probe.mk.injEq,and_true,true_and];omega
theorem qu(m:Nat)(h:Int):∀n,cy m h (rR m h n)=⟨(gJ m h n).1,run m (gJ m h n).1,(gJ m h n).1,(gJ m h n).2,none⟩
 |0=>rfl
 |n+1=>by
  have e:=uC m h n (qu m h n) _ (Ms _);show(tb m).advance (cy m h (rR m h n+run m (gJ m h n).1))=_;rw[e];unfold Sd;simp only;rw[if_neg (by omega)]
  rfl
theorem uD(m:Nat)(h:Int)(n r:Nat)(Z:r<=run m (gJ m h n).1):(cy m h (rR m h n+r)).j=(gJ m h n).1+r:=by
 rw[uC m h n (qu m h n) r Z]
theorem yU(m:Nat)(h:Int):∀n,(gJ m h n).2=Sl h / 32 ^ n
 |0=>by simp[gJ]
 |n+1=>by
  show(gJ m h n).2 / 32=_;rw[yU m h n,Nat.div_div_eq_div_mul,Nat.pow_succ]
theorem EI(h:Int):Sl h<2 ^ 64:=by
 unfold Sl;have Z:0<=h % (2 ^ 64:Int):=Oy _ (by decide)
 have Y:h % (2 ^ 64:Int)<2 ^ 64:=N6 _ (by decide)
 omega
theorem Lw(m:Nat)(h:Int)(n:Nat):(gJ m h (13+n)).2=0:=by
 rw[yU];refine Nat.div_eq_of_lt (MG (EI h) ?_);have:(2:Nat) ^ 64<=32 ^ 13:=by decide
 exact ME this (Pr (by decide) (by omega))
def JL(m:Nat):Nat->Nat->Nat
 |0,a=>a
 |n+1,a=>(JL m n a*5+1) % (m+1)
theorem xV(m:Nat)(h:Int):∀n,(gJ m h (13+n)).1=JL m n (gJ m h 13).1
 |0=>rfl
 |n+1=>by
  show((gJ m h (13+n)).1*5+1+(gJ m h (13+n)).2 / 32) % (m+1)=(JL m n (gJ m h 13).1*5+1) % (m+1);rw[Lw,xV m h n]
theorem Ct(m:Nat)(h:Int):∀n,(gJ m h n).1<m+1
 |0=>Qc _ (by omega)
 |n+1=>Qc _ (by omega)
theorem Lx:∀a,a<8->∀j,j<8->∃n,n<8/\JL 7 n a=j:=by decide+kernel
theorem JM:∀a,a<32->∀j,j<32->∃n,n<32/\JL 31 n a=j:=by decide+kernel
def F7(m:Nat):Prop:=m=7\/m=31
theorem Cu(X:F7 m)(h:Int)(j:Nat)(W:j<=m):∃n,n<m+14/\(gJ m h n).1=j:=by
 rcases X with rfl|rfl
 ·obtain⟨n,Y,Z⟩:=Lx _ (Ct 7 h 13) j (by omega)
  exact⟨13+n,by omega,by rw[xV];exact Z⟩
 ·obtain⟨n,Y,Z⟩:=JM _ (Ct 31 h 13) j (by omega)
  exact⟨13+n,by omega,by rw[xV];exact Z⟩
theorem cover(Y:F7 m)(h:Int)(j:Nat)(Z:j<=m):∃K,K<10*Sn m/\(cy m h K).j=j:=by
 obtain⟨n,W,X⟩:=Cu Y h j Z;refine⟨rR m h n,?_,by rw[qu];exact X⟩
 have:=Cs m h n;unfold Sn;omega
theorem sT(h:i<m+1):i+run m i<=m:=by
 unfold run RW;split<;>omega
theorem Hy{p:Probe}(h:p.j+p.more<=m):((tb m).advance p).j+((tb m).advance p).more<=m:=by
 unfold Sd;split
 ·simp only;omega
 ·simp only[leap];exact sT (Qc _ (by omega))
theorem sU(m:Nat)(h:Int):∀k,(cy m h k).j+(cy m h k).more<=m
 |0=>sT (Qc _ (by omega))
 |k+1=>Hy (sU m h k)
theorem EJ(m:Nat)(h:Int)(k:Nat)(_:F7 m):(cy m h k).j<=m:=ME (Ol _ _) (sU m h k)
def EK(xs:Array Nat):Prop:=∀(i j a b:Nat),i<j->xs[i]? =ar a->xs[j]? =ar b->a<b
theorem qv(X:EK xs):∀(fuel lo hi:Nat),lo<=hi->hi<=xs.size->hi - lo<=fuel->(∀(i a:Nat),i<lo->xs[i]? =ar a->a<j)->(∀(i a:Nat),hi<=i->xs[i]? =ar a->j<=a)->
  RX xs j fuel lo hi<=xs.size/\(∀(i a:Nat),i<RX xs j fuel lo hi->xs[i]? =ar a->a<j)/\(∀(i a:Nat),RX xs j fuel lo hi<=i->xs[i]? =ar a->j<=a)
 |0,lo,hi,h1,h2,h3,h4,h5=>by
  have:lo=hi:=by omega
  subst this;exact⟨h2,h4,h5⟩
 | fuel+1,lo,hi,h1,h2,h3,h4,h5=>by
  unfold RX;by_cases hlt:lo<hi
  ·rw[if_pos hlt];simp only;have Z:(lo+hi) / 2<xs.size:=by omega
   have U:xs.getD ((lo+hi) / 2) j=xs[(lo+hi) / 2]:=by simp[RY,Z]
   have Y:xs[(lo+hi) / 2]? =ar xs[(lo+hi) / 2]:=MA Z;rw[U];split
   ·next hc=>
    refine qv X fuel _ hi (by omega) h2 (by omega) (fun i a W e=>?_) h5
    by_cases he:i=(lo+hi) / 2
    ·subst he;rw[Y]at e;cases e;exact hc
    ·exact PV (X i _ a _ (by omega) e Y) hc
   ·next hc=>
    refine qv X fuel lo _ (by omega) (by omega) (by omega) h4 (fun i a W e=>?_)
    by_cases he:i=(lo+hi) / 2
    ·subst he;rw[Y]at e;cases e;omega
    ·have:=X _ i _ a (by omega) Y e
     omega
  ·rw[if_neg hlt];have:lo=hi:=by omega
   subst this;exact⟨h2,h4,h5⟩
theorem qw(Z:EK xs)(j:Nat):v_ xs j<=xs.size/\(∀(i a:Nat),i<v_ xs j->xs[i]? =ar a->a<j)/\(∀(i a:Nat),v_ xs j<=i->xs[i]? =ar a->j<=a):=
 qv Z xs.size 0 xs.size (ML _) (Ms _) (by omega) (fun _ _ h=>absurd h (QE _)) fun i a hi e=>by
  rw[NJ hi]at e;cases e
theorem xW(Z:EK xs)(h:xs[i]? =ar j):v_ xs j=i:=by
 obtain⟨_,W,Y⟩:=qw Z j;rcases Pb (v_ xs j) i with l|l|l
 ·have X:v_ xs j<xs.size:=PV l (MQ.mp h).1;have e:xs[v_ xs j]? =ar xs[v_ xs j]:=MA X;have T:=Z _ _ _ _ l e h;have U:=Y _ _ (Ms _) e;omega
 ·exact l
 ·have:=W i j l h;omega
theorem nY{t:l_}(h:t.slot j= .live i):t.place[i]? =ar j:=by
 unfold slot at h;simp only at h;split at h
 ·next hc=>cases h;exact QN hc
 ·split at h<;>cases h
theorem pJ{t:l_}(Z:EK t.place)(h:t.place[i]? =ar j):t.slot j= .live i:=by
 unfold slot;simp only;rw[xW Z h,h];simp
theorem yV{t:l_}(Z:t.dummies= #[])(j:Nat):(∃i,t.slot j= .live i)\/t.slot j= .empty:=by
 unfold slot;simp only;rw[Z];split
 ·exact .inl ⟨_,rfl⟩
 ·exact .inr (by simp[has])
theorem xX{t:l_}(Z:EK t.place)(h:t.slot j= .empty):∀(i:Nat),t.place[i]? ≠ar j:=fun i e=>by
 rw[pJ Z e]at h;cases h
theorem yW(X:EK xs)(h:∀(j:Nat),j<n->∃i:Nat,xs[i]? =ar j):∀(j:Nat),j<n->∃i:Nat,j<=i/\xs[i]? =ar j
 |0,hj=>by obtain⟨i,e⟩:=h 0 hj;exact⟨i,ML _,e⟩
 |j+1,hj=>by
  obtain⟨i,W,Y⟩:=yW X h j (by omega)
  obtain⟨Z,e⟩:=h (j+1) hj;refine⟨Z,?_,e⟩;rcases Pb i Z with l|l|l
  ·omega
  ·subst l;rw[Y]at e;cases e
  ·have:=X _ _ _ _ l e Y;omega
theorem AM{t:l_}(W:EK t.place)(Z:t.dummies= #[])(hs:t.place.size<=t.mask):∃j,j<=t.mask/\t.slot j= .empty:=by
 apply ON;intro X;have:∀(j:Nat),j<t.mask+1->∃i:Nat,t.place[i]? =ar j:=fun j U=>by
  rcases yV Z j with⟨i,e⟩|e
  ·exact⟨i,nY e⟩
  ·exact absurd ⟨j,by omega,e⟩ X
 obtain⟨i,T,Y⟩:=yW W this t.mask (by omega)
 have:=(MQ.mp Y).1;omega
theorem yX{t:l_}(X:t.dummies= #[])(Y:Nat->Int)(h:Int)(K:Nat)(W:t.slot (cy t.mask h K).j= .empty):∀(fuel k:Nat),k<=K->K - k<fuel->
    ∃Z,k<=Z/\Z<=K/\(∀m,k<=m->m<Z->∃i,t.slot (cy t.mask h m).j= .live i/\Y i≠h)/\
      ((t.slot (cy t.mask h Z).j= .empty/\So t Y h fuel (cy t.mask h k)=ar (.empty (cy t.mask h Z).j none))\/
       (∃i,t.slot (cy t.mask h Z).j= .live i/\Y i=h/\So t Y h fuel (cy t.mask h k)=ar (.candidate (cy t.mask h Z).j i (cy t.mask h (Z+1)))))
  |0,k,h1,h2=>by omega
  | fuel+1,k,h1,h2=>by
    unfold So;rcases yV X (cy t.mask h k).j with⟨i,e⟩|e
    · rw[e]
      simp only;by_cases hh:Y i=h
      · rw[if_pos (by simpa using hh)]
        exact⟨k,Ms _,h1,fun m a b=>by omega,.inr ⟨i,e,hh,rfl⟩⟩
      · rw[if_neg (by simpa using hh)]
        have U:k≠K:=fun z=>by subst z;rw[W]at e;cases e
        obtain⟨Z,g1,g2,g3,T⟩:=yX X Y h K W fuel (k+1) (by omega) (by omega)
        refine⟨Z,by omega,g2,fun m a b=>?_,?_⟩
        · by_cases hm:m=k
          · subst hm;exact⟨i,e,hh⟩
          · exact g3 m (by omega) b
        · rw[Hw];exact T
    · rw[e]
      simp only[qt];exact⟨k,Ms _,h1,fun m a b=>by omega,.inl ⟨e,rfl⟩⟩
abbrev Ent:=Int×a_
def At(pl:Array Nat)(es:Array Ent)(j:Nat)(e:Ent):Prop:=∃i:Nat,pl[i]? =ar j/\es[i]? =ar e
structure TPre(t:l_)(es:Array Ent):Prop where
 msk:F7 t.mask
 dum:t.dummies= #[]
 siz:t.place.size=es.size
 ris:EK t.place
 inb:∀(i a:Nat),t.place[i]? =ar a->a<=t.mask
 way:∀(j:Nat) (e:Ent),At t.place es j e->∃k,(cy t.mask e.1 k).j=j/\∀m,m<k->∃e',At t.place es (cy t.mask e.1 m).j e'
structure TOk(t:l_)(es:Array Ent):Prop extends TPre t es where
 few:es.size*5<t.mask*3
theorem TPre.fits(k:TPre t es)(h:es.size<=t.mask):t.fits es.size=true:=by
 unfold SetTable.fits fill;rw[k.siz,k.dum];simpa using h
theorem TOk.le(k:TOk t es):es.size<=t.mask:=by
 have:=k.few;omega
theorem TPre.at_of{t:l_}{es:Array Ent}(k:TPre t es){i j:Nat}(h:t.place[i]? =ar j):∃e,es[i]? =ar e/\At t.place es j e:=by
 have hi:i<es.size:=by rw[<-k.siz];exact(MQ.mp h).1
 exact⟨es[i],MA hi,i,h,MA hi⟩
theorem Cv(Z:Bool):TOk (EW 0 0 Z) #[] where
 msk:=.inl rfl
 dum:=rfl
 siz:=rfl
 ris:=fun i j a b _ h _=>by simp[EW]at h
 inb:=fun i a h=>by simp[EW]at h
 way:=fun j e ⟨i,h,_⟩=>by simp[EW]at h
 few:=by show 0*5<7*3;decide
theorem fM{Z:Type}(xs:Array Z)(p:Nat)(x:Z)(X:p<=xs.size)(i:Nat):(e_ xs p x)[i]? =if i<p then xs[i]? else if i=p then ar x else xs[i - 1]? :=by
 rw[<-MV,SetTable.toList_insertAt];have Y:(xs.toList.take p).length=p:=by simp[X]
 by_cases h1:i<p
 ·rw[if_pos h1,MN (by omega),P9 h1,MV]
 ·rw[if_neg h1,N0 (by omega),Y]
  by_cases h2:i=p
  ·subst h2;simp
  ·rw[if_neg h2];obtain⟨d,hd⟩:∃d,i - p=d+1:=⟨i - p - 1,by omega⟩
   rw[hd,List.getElem?_cons_succ,PX,show p+d=i - 1 by omega,MV]
theorem qx{Z:Type}(xs:Array Z)(p:Nat)(x:Z):(e_ xs p x).size=xs.size+1:=by
 have:=(SetTable.insertAt_perm xs p x).length_eq;simpa using this
theorem Cw{X:Array Nat}{es:Array Ent}(hs:X.size=es.size)(Y:p<=X.size)(U:Nat)(W:Ent):
  At (e_ X p j) (e_ es p e) U W↔At X es U W\/(U=j/\W=e):=by
 have Z:p<=es.size:=by rw[<-hs];exact Y
 constructor
 ·rintro⟨i,h1,h2⟩;rw[fM _ _ _ Y]at h1;rw[fM _ _ _ Z]at h2;by_cases c1:i<p
  ·rw[if_pos c1]at h1 h2;exact .inl ⟨i,h1,h2⟩
  ·rw[if_neg c1]at h1 h2;by_cases c2:i=p
   ·rw[if_pos c2]at h1 h2;cases h1;cases h2;exact .inr ⟨rfl,rfl⟩
   ·rw[if_neg c2]at h1 h2;exact .inl ⟨_,h1,h2⟩
 ·rintro(⟨i,h1,h2⟩|⟨rfl,rfl⟩)
  ·by_cases c1:i<p
   ·exact⟨i,by rw[fM _ _ _ Y,if_pos c1];exact h1,by rw[fM _ _ _ Z,if_pos c1];exact h2⟩
   ·exact⟨i+1,by rw[fM _ _ _ Y,if_neg (by omega),if_neg (by omega)];exact h1,by rw[fM _ _ _ Z,if_neg (by omega),if_neg (by omega)];exact h2⟩
  ·exact⟨p,by rw[fM _ _ _ Y,if_neg (by omega),if_pos rfl],by rw[fM _ _ _ Z,if_neg (by omega),if_pos rfl]⟩
theorem Hz{t:l_}(Z:t.dummies= #[])(j:Nat):t.put j=({t with place:=e_ t.place (v_ t.place j) j},v_ t.place j):=by
 unfold put;simp only;rw[Z];have:has (#[]:Array Nat) j=false:=by simp[has]
 rw[this];cases t;simp only at Z;subst Z;rfl
theorem HA(k:TPre t es){e:Ent}(G:j<=t.mask)(N:t.slot j= .empty)(H:(cy t.mask e.1 K).j=j)(I:∀m,m<K->∃S,At t.place es (cy t.mask e.1 m).j S):
  TPre (t.put j).1 (e_ es (t.put j).2 e)/\(t.put j).1.mask=t.mask/\(t.put j).1.led=t.led/\(t.put j).1.plain=t.plain:=by
 obtain⟨X,O,L⟩:=qw k.ris j;have P:=xX k.ris N;rw[Hz k.dum];refine⟨⟨k.msk,k.dum,?_,?_,?_,?_⟩,rfl,rfl,rfl⟩
 ·show(e_ t.place (v_ t.place j) j).size=_;rw[qx,qx,k.siz]
 ·intro Q W a b R U T;have Y:(e_ t.place (v_ t.place j) j)[Q]? =ar a:=U;have Z:(e_ t.place (v_ t.place j) j)[W]? =ar b:=T;rw[fM _ _ _ X]at Y Z;by_cases c1:Q<v_ t.place j
  ·rw[if_pos c1]at Y;by_cases c2:W<v_ t.place j
   ·rw[if_pos c2]at Z;exact k.ris _ _ _ _ R Y Z
   ·rw[if_neg c2]at Z;by_cases c3:W=v_ t.place j
    ·rw[if_pos c3]at Z;cases Z;exact O _ _ c1 Y
    ·rw[if_neg c3]at Z;exact k.ris _ _ _ _ (by omega) Y Z
  ·rw[if_neg c1]at Y;rw[if_neg (by omega),if_neg (by omega)]at Z
   by_cases c3:Q=v_ t.place j
   ·rw[if_pos c3]at Y;cases Y;have q:=L _ _ (by omega) Z
    have:b≠j:=fun z=>by subst z;exact P _ Z
    omega
   ·rw[if_neg c3]at Y;exact k.ris _ _ _ _ (by omega) Y Z
 ·intro i a h;have h':(e_ t.place (v_ t.place j) j)[i]? =ar a:=h;rw[fM _ _ _ X]at h';by_cases c1:i<v_ t.place j
  ·rw[if_pos c1]at h';exact k.inb _ _ h'
  ·rw[if_neg c1]at h';by_cases c3:i=v_ t.place j
   ·rw[if_pos c3]at h';cases h';exact G
   ·rw[if_neg c3]at h';exact k.inb _ _ h'
 ·intro J S h;have up:∀{a b},At t.place es a b->At (e_ t.place (v_ t.place j) j) (e_ es (v_ t.place j) e) a b:=fun z=>(Cw k.siz X _ _).mpr (.inl z);rcases (Cw k.siz X J S).mp h with h'|⟨rfl,rfl⟩
  ·obtain⟨n,U,T⟩:=k.way _ _ h';exact⟨n,U,fun m hm=>let ⟨x,hx⟩:=T m hm;⟨x,up hx⟩⟩
  ·exact⟨K,H,fun m hm=>let ⟨x,hx⟩:=I m hm;⟨x,up hx⟩⟩
abbrev HB:=Array (Option Nat)
def AN(o:HB)(j:Nat):Prop:=∃k,o[j]? =ar (ar k)
structure Laid(m:Nat)(hs:List Int)(o:HB):Prop where
 siz:o.size=m+1
 way:∀(j k:Nat),o[j]? =ar (ar k)->∃x,hs[k]? =ar x/\∃n,(cy m x n).j=j/\∀i,i<n->AN o (cy m x i).j
theorem sV{o:HB}(R:o.size=m+1)(h:Int)(n':Nat)(P:o[(gJ m h n').1]? =ar none):∀(fuel n:Nat),n<=n'->n' - n<fuel->
  ∃idx,rR m h n<=idx/\H_ m o fuel (gJ m h n).1 (gJ m h n).2=ar (cy m h idx).j/\o[(cy m h idx).j]? =ar none/\∀i,rR m h n<=i->i<idx->AN o (cy m h i).j
 |0,n,h1,h2=>by omega
 | fuel+1,n,h1,h2=>by
  have S:RW m (gJ m h n).1+1 - (gJ m h n).1=run m (gJ m h n).1+1:=by
   unfold run RW;split<;>omega
  have Q:(gJ m h n).1+run m (gJ m h n).1<=m:=by
   have:=Ct m h n;unfold run RW;split<;>omega
  have get:∀k,k<=run m (gJ m h n).1->o.getD ((gJ m h n).1+k) (ar 0)=o[(gJ m h n).1+k]?.getD (ar 0):=fun k _=>by simp
  have T:∀k,k<=run m (gJ m h n).1->(o.getD ((gJ m h n).1+k) (ar 0)).isNone=dV->AN o (cy m h (rR m h n+k)).j:=fun k U O=>by
   rw[uD m h n k U];have Z:(gJ m h n).1+k<o.size:=by omega
   rw[get k U,MA Z]at O;cases e:o[(gJ m h n).1+k]with
   |none=>simp[e]at O
   |some z=>exact⟨z,by rw[MA Z,e]⟩
  unfold H_;rw[S];cases q:(eb (run m (gJ m h n).1+1)).find? (fun k=>(o.getD ((gJ m h n).1+k) (ar 0)).isNone)with
  | some k=>
   simp only;have U:=List.find?_some q;have Y:k<=run m (gJ m h n).1:=by
    have:=List.mem_of_find?_eq_some q;rw[MC]at this;omega
   refine⟨rR m h n+k,by omega,by rw[uD m h n k Y],?_,fun i a b=>?_⟩
   ·rw[uD m h n k Y];have Z:(gJ m h n).1+k<o.size:=by omega
    rw[get k Y,MA Z]at U;rw[MA Z];cases e:o[(gJ m h n).1+k]with
    |none=>rfl
    |some z=>simp[e]at U
   ·obtain⟨d,rfl⟩:∃d,i=rR m h n+d:=⟨i - rR m h n,by omega⟩
    refine T d (by omega) ?_
    have X:=List.find?_eq_some_iff_getElem.mp q;obtain⟨_,J,K,e1,e2⟩:=X;simp at e1;subst e1;have:=e2 d (by omega)
    simpa using this
  | none=>
   simp only;have X:=List.find?_eq_none.mp q;have W:∀k,k<=run m (gJ m h n).1->AN o (cy m h (rR m h n+k)).j:=fun k U=>T k U (by
    have:=X k (MC.mpr (by omega))
    exact Qe.mpr this)
   have N:n≠n':=fun z=>by
    subst z;obtain⟨k,e⟩:=W 0 (ML _);rw[uD m h n 0 (ML _)]at e;rw[Nat.add_zero,P]at e;cases e
   obtain⟨idx,g1,g2,g3,L⟩:=sV R h n' P fuel (n+1) (by omega) (by omega)
   have I:rR m h (n+1)=rR m h n+run m (gJ m h n).1+1:=rfl;refine⟨idx,by omega,g2,g3,fun i a b=>?_⟩
   by_cases hi:rR m h (n+1)<=i
   ·exact L i hi b
   ·obtain⟨d,rfl⟩:∃d,i=rR m h n+d:=⟨i - rR m h n,by omega⟩
    exact W d (by omega)
def dN(m:Nat)(f:Nat->Option Nat):List (Nat×Nat):=(eb (m+1)).filterMap fun j=>(f j).map fun k=>(j,k)
theorem m7{Z Y:Type}{f g:Z->Option Y}:∀{l:List Z},(∀x∈l,f x=g x)->l.filterMap f=l.filterMap g
 |[],_=>rfl
 |x::l,h=>by rw[Nb,Nb,h x MH,m7 fun y X=>h y (My _ X)]
theorem Cy{f g:Nat->Option Nat}(U:j<m+1)(X:f j=none)(W:g j=ar k)(Y:∀i,i≠j->g i=f i):(dN m g).Perm ((j,k)::dN m f):=by
 unfold dN;have e:eb (m+1)=eb j++j::(pe (j+1) (m - j)):=by
  rw[Pu,Pu,show m+1=j+(1+(m - j)) by omega, <-List.range'_append_1, <-List.range'_append_1]
  simp
 rw[e,List.filterMap_append,List.filterMap_append,Nb,Nb,X,W];simp only[z6,Option.map_none];rw[m7 (l:=eb j) (g:=fun j=>(f j).map fun k=>(j,k)) fun x Z=>by rw[Y x (by rw[MC]at Z;omega)],
  m7 (l:=pe (j+1) (m - j)) (g:=fun j=>(f j).map fun k=>(j,k)) fun x Z=>by rw[Y x (by rw[Qf]at Z;omega)]]
 exact List.perm_middle
def fo(o:HB)(j:Nat):Option Nat:=o.getD j none
theorem qy:fo o j=ar k↔o[j]? =ar (ar k):=by
 unfold fo;rw[M7];cases o[j]? with
 |none=>simp
 |some z=>simp
structure LaidN(m:Nat)(hs:List Int)(o:HB):Prop extends Laid m hs o where
 all:((dN m (fo o)).map (·.2)).Perm (eb hs.length)
theorem vZ(L:LaidN m hs o):(dN m (fo o)).length=hs.length:=by
 have:=L.all.length_eq;simpa using this
theorem v5(L:LaidN m hs o)(S:hs.length<=m):∃j,j<=m/\o[j]? =ar none:=by
 apply ON;intro T;have Y:∀j,j∈eb (m+1)->∃k,fo o j=ar k:=fun j X=>by
  rw[MC]at X;have Z:j<o.size:=by rw[L.siz];exact X
  cases e:o[j]with
  |none=>exact absurd ⟨j,by omega,by rw[MA Z,e]⟩ T
  |some k=>exact⟨k,qy.mpr (by rw[MA Z,e])⟩
 have:∀l:List Nat,(∀j∈l,∃k,fo o j=ar k)->(l.filterMap fun j=>(fo o j).map fun k=>(j,k)).length=l.length:=by
  intro l
  induction l with
  |nil=>intro _;rfl
  |cons x l ih=>
   intro h;obtain⟨k,e⟩:=h x MH;rw[Nb,e];simp only[z6,rn];rw[ih fun j X=>h j (My _ X)]
 have U:=this _ Y;have W:=vZ L;unfold dN at W;rw[U,MR]at W;omega
theorem Cz(O:F7 m)(L:LaidN m hs o)(R:hs.length<=m)(x:Int):
  ∃j,H_ m o (Sn m) (Sl x % (m+1)) (Sl x)=ar j/\LaidN m (hs++[x]) (o.setIfInBounds j (ar hs.length)):=by
 obtain⟨J,U,X⟩:=v5 L R;obtain⟨n',P,W⟩:=Cu O x J U;obtain⟨idx,_,g2,g3,Q⟩:=sV L.siz x n' (by rw[W];exact X) (Sn m) 0 (ML _) (by unfold Sn;omega)
 refine⟨(cy m x idx).j,g2,?_⟩;generalize hj:(cy m x idx).j=j at g3⊢;have Z:j<o.size:=(MQ.mp g3).1;have self:(o.setIfInBounds j (ar hs.length))[j]? =ar (ar hs.length):=by simp[Z]
 have Y:∀i,i≠j->(o.setIfInBounds j (ar hs.length))[i]? =o[i]? :=fun i hi=>by
  rw[Array.getElem?_setIfInBounds_ne (kr hi)]
 have up:∀i,AN o i->AN (o.setIfInBounds j (ar hs.length)) i:=fun i ⟨k,e⟩=>by
  by_cases hi:i=j
  ·subst hi;exact⟨_,self⟩
  ·exact⟨k,by rw[Y i hi];exact e⟩
 refine⟨⟨by rw[Array.size_setIfInBounds];exact L.siz,fun i k e=>?_⟩,?_⟩
 ·by_cases hi:i=j
  ·subst hi;rw[self]at e;cases e;exact⟨x,by simp,idx,hj,fun q T=>up _ (Q q (ML _) T)⟩
  ·rw[Y i hi]at e;obtain⟨y,S,n,N,K⟩:=L.way i k e;refine⟨y,?_,n,N,fun q T=>up _ (K q T)⟩;rw[MN (Mv.mp S).1];exact S
 ·have I:=Cy (m:=m) (j:=j) (k:=hs.length) (f:=fo o) (g:=fo (o.setIfInBounds j (ar hs.length))) (by rw[<-L.siz];exact Z)
   (by unfold fo;rw[M7,g3];rfl) (qy.mpr self) (fun i hi=>by unfold fo;rw[M7,M7,Y i hi])
  refine(I.map (·.2)).trans ?_;rw[Mu,Ph,List.range_succ];exact(EA _ L.all).trans (List.perm_append_singleton _ _).symm
theorem yY(W:F7 m):∀(rest hs:List Int) (o:HB),LaidN m hs o->hs.length+rest.length<=m+1->
  ∃Y,rest.foldl (fun(acc:Option (HB×Nat)) h=>do
   let (owner,k)<-acc;let j<-H_ m owner (Sn m) (Sl h % (m+1)) (Sl h)
   aC (owner.setIfInBounds j (ar k),k+1)) (ar (o,hs.length))=ar (Y,hs.length+rest.length)/\LaidN m (hs++rest) Y
 |[],hs,o,L,_=>⟨o,rfl,by rw[M3];exact L⟩
 |x::rest,hs,o,L,hl=>by
  rw[MW]at hl;obtain⟨j,e,U⟩:=Cz W L (by omega) x
  obtain⟨Y,X,Z⟩:=yY W rest (hs++[x]) _ U (by simp;omega)
  refine⟨Y,?_,by rw[MY]at Z;exact Z⟩
  rw[List.foldl_cons];simp only[Option.bind_eq_bind,Ic,e];rw[Mu,Ph]at X;simp only[Option.bind_eq_bind]at X;rw[MW,show hs.length+(rest.length+1)=hs.length+1+rest.length by omega]
  exact X
theorem AO(W:F7 m)(Z:Array Int)(Y:Z.size<=m+1):∃o,layClean m Z=ar o/\LaidN m Z.toList o:=by
 have X:LaidN m [] (s_ (m+1) none):=by
  refine⟨⟨by simp,fun j k e=>?_⟩,?_⟩
  ·rw[Qg]at e;split at e<;>cases e
  ·have:dN m (fo (s_ (m+1) none))=[]:=by
    unfold dN;rw[List.filterMap_eq_nil_iff];intro j _;have:fo (s_ (m+1) none) j=none:=by
     cases e:fo (s_ (m+1) none) j with
     |none=>rfl
     |some k=>
      rw[qy,Qg]at e;split at e<;>cases e
    rw[this];rfl
   rw[this];exact .refl _
 obtain⟨o,e,L⟩:=yY W Z.toList [] _ X (by simpa using Y)
 refine⟨o,?_,by simpa using L⟩
 unfold layClean;rw[<-Array.foldl_toList];rw[show(s_ (m+1) (none:Option Nat),0)=(s_ (m+1) none,([]:List Int).length)from rfl];rw[e];rfl
theorem qz(f:Nat->Option Nat):∀l:List Nat,((l.filterMap fun j=>(f j).map fun k=>(j,k)).map (·.1)).Sublist l
 |[]=>.slnil
 |x::l=>by
  rw[Nb];cases f x with
  |none=>exact .cons _ (qz f l)
  |some k=>exact .cons₂ _ (qz f l)
theorem qA{f:Nat->Option Nat}:(j,k)∈dN m f↔j<m+1/\f j=ar k:=by
 unfold dN;rw[NS];constructor
 ·rintro⟨a,h1,h2⟩;cases e:f a with
  |none=>rw[e]at h2;cases h2
  |some b=>
   rw[e]at h2;cases h2;exact⟨MC.mp h1,e⟩
 ·rintro⟨h1,h2⟩;exact⟨j,MC.mpr h1,by rw[h2];rfl⟩
theorem HC{l:List Nat}(h:l.Pairwise (· <·)):EK l.toArray:=by
 intro i j a b Z Y X;rw[N7]at Y X;obtain⟨hi,W⟩:=Mv.mp Y;obtain⟨T,U⟩:=Mv.mp X;have:=P4.mp h i j hi T Z;rw[W,U]at this;exact this
theorem CA{Z X:Type}{f:Z->Option X}:∀{l:List Z},(∀x∈l,∃y,f x=ar y)->∀i:Nat,(l.filterMap f)[i]? =l[i]?.bind f
 |[],_,i=>by simp
 |x::l,h,i=>by
  obtain⟨y,e⟩:=h x MH;rw[Nb,e];cases i with
  |zero=>simp[e]
  |succ i=>simpa using CA (fun z Y=>h z (My _ Y)) i
theorem EL{es:Array Ent}(J:F7 m)(E:es.size*5<m*3)(H K:Nat)(N P:Bool):
  ∃(t':l_) (order:Array Nat),laid m H K N P (es.map (·.1))=ar (t',order)/\order.toList.Perm (eb es.size)/\(order.filterMap (es[·]?)).size=es.size/\TOk t' (order.filterMap (es[·]?))/\t'.led=N/\t'.plain=P/\t'.mask=m:=by
 obtain⟨o,e,L⟩:=AO J (es.map (·.1)) (by rw[Array.size_map];omega)
 have hlen:(es.map (·.1)).toList.length=es.size:=by simp
 have Z:=L.all;rw[hlen]at Z;have G:∀p∈dN m (fo o),∃y,es[p.2]? =ar y:=fun p R=>by
  have:p.2∈eb es.size:=Z.mem_iff.mp (List.mem_map_of_mem R);rw[MC]at this;exact⟨es[p.2],MA this⟩
 have Q:(((dN m (fo o)).map (·.2)).toArray.filterMap (es[·]?)).toList=((dN m (fo o)).map (·.2)).filterMap (es[·]?):=by
  rw[Array.toList_filterMap]
 have U:(((dN m (fo o)).map (·.2)).toArray.filterMap (es[·]?)).toList.Perm es.toList:=by
  rw[Q];exact(Z.filterMap _).trans (by rw[filterMap_getElem?_range])
 have W:(((dN m (fo o)).map (·.2)).toArray.filterMap (es[·]?)).size=es.size:=by
  have:=U.length_eq;simpa using this
 have S:∀(j:Nat) (x:Ent),At (((dN m (fo o)).map (·.1)).toArray) (((dN m (fo o)).map (·.2)).toArray.filterMap (es[·]?)) j x↔∃k,(j,k)∈dN m (fo o)/\es[k]? =ar x:=by
  intro j x;have key:∀i:Nat,(((dN m (fo o)).map (·.2)).toArray.filterMap (es[·]?))[i]? =((dN m (fo o))[i]?).bind fun p=>es[p.2]? :=fun i=>by
   rw[<-MV,Q,CA (fun z w=>by
    obtain⟨p,R,rfl⟩:=MJ.mp w;exact G p R) i,MO]
   cases (dN m (fo o))[i]? <;>rfl
  constructor
  ·rintro⟨i,Y,X⟩;rw[N7,MO]at Y;rw[key]at X;cases q:(dN m (fo o))[i]? with
   |none=>rw[q]at Y;cases Y
   |some p=>
    rw[q]at Y X;cases Y;exact⟨p.2,M1 q,X⟩
  ·rintro⟨k,Y,X⟩;obtain⟨i,hi⟩:=Oz.mp Y;exact⟨i,by rw[N7,MO,hi];rfl,by rw[key,hi];exact X⟩
 refine⟨⟨m,((dN m (fo o)).map (·.1)).toArray, #[],H,N,K,P⟩,((dN m (fo o)).map (·.2)).toArray,?_,by simpa using Z,W,⟨⟨J,rfl,?_,?_,?_,?_⟩,?_⟩,rfl,rfl,rfl⟩
 ·unfold laid;rw[e];rfl
 ·rw[W];show(((dN m (fo o)).map (·.1)).toArray).size=_;rw[MB,Mq,vZ L,hlen]
 ·exact HC (OA (qz _ _) List.pairwise_lt_range)
 ·intro i a h;have h':(((dN m (fo o)).map (·.1)).toArray)[i]? =ar a:=h;rw[N7]at h';obtain⟨p,R,rfl⟩:=MJ.mp (M1 h');have:=(qA.mp R).1;show p.1<=m;omega
 ·intro j x F;obtain⟨k,Y,X⟩:=(S j x).mp F;obtain⟨t,B⟩:=qA.mp Y;obtain⟨y,g1,n,g2,g3⟩:=L.way j k (qy.mp B);have C:y=x.1:=by
   rw[MV,Array.getElem?_map,X]at g1;cases g1;rfl
  subst C;refine⟨n,g2,fun i hi=>?_⟩;obtain⟨A,I⟩:=g3 i hi;have O:(cy m x.1 i).j<m+1:=by rw[<-L.siz];exact(MQ.mp I).1
  have T:=qA.mpr ⟨O,qy.mpr I⟩;obtain⟨u,v⟩:=G _ T;exact⟨u,(S _ _).mpr ⟨A,T,v⟩⟩
 ·rw[W];exact E
theorem AQ{t:l_}{es:Array Ent}(S:es.size=5):∃(t':l_) (order:Array Nat),t.relaid (es.map (·.1)) (SetTable.grown 5)=ar (t',order)/\order.toList.Perm (eb es.size)/\(order.filterMap (es[·]?)).size=es.size/\
  TOk t' (order.filterMap (es[·]?))/\t'.led=t.led/\t'.plain=t.plain:=by
 obtain⟨t',o,T,U,Z,Y,X,W,_⟩:=EL (es:=es) (m:=31) (.inr rfl) (by rw[S];decide) t.finger (t.movedTo 31) t.led t.plain
 exact⟨t',o,T,U,Z,Y,X,W⟩
end S4
namespace S4
open PySem PySem.Spec PyProof.Rows
section
variable {prog:eM}{w:fg}{A:hI}{E:a_->c_->Prop}{s:c_}
theorem items_int(h:ItemsAre (nC prog w) ks vs):∀v∈vs,∃n t,v=pd n t:=by
 induction h with
 |nil=>intro v Z;cases Z
 | cons h1 _ ih=>
  intro v Z;rcases MK.mp Z with rfl|Z
  ·obtain⟨t,e⟩:=Value.isInt_shape h1;exact⟨_,t,e⟩
  ·exact ih v Z
theorem AR{Q:Bool->c_->Prop}(Y:k_ (nC prog w) s.heap ks a)(h:Q b_ s):er (f_ prog w) A (RD 8 (.ref a)) Q E s:=by
 have W:=Y.typeIs;obtain⟨o,items,n,X,_,hd,hi⟩:=Y;unfold RD;refine Mo (wpAny_specialOf W F.slot_tuple_hash.lookup ?_);show er _ _ (R8 (.ref a)>>=_) _ _ s;refine Mo (NO X hd ?_);refine Mo ?_;show er _ _ (SM items _ _) _ _ s;rw[<-Array.forIn_toList];refine Pk _ (fun rest r s'=>r.1=none/\s'=s/\∀v∈rest,∃n t,v=pd n t) _ ?_ ?_ _ _ ⟨rfl,rfl,items_int hi⟩
 ·rintro v rest r s' ⟨hr,rfl,hall⟩;obtain⟨i,t,rfl⟩:=hall v MH;refine Mo ?_;unfold RD;refine Mr ?_;simp only[pz,fc,if_false];exact Mr ⟨rfl,rfl,fun u Z=>hall u (My _ Z)⟩
 ·rintro⟨r1,r2⟩ s' ⟨hr,rfl,_⟩;simp only at hr;subst hr;exact Mr h
theorem oE{Q:Bool->c_->Prop}(Y:k_ (nC prog w) s.heap ks a)(h:Q dV s):er (f_ prog w) A (G2 8 (.ref a)) Q E s:=by
 have W:=Y.typeIs;obtain⟨o,items,n,X,_,hd,hi⟩:=Y;unfold G2;refine Mo (Ow W ?_);simp only;rw[if_pos (by decide)]
 refine Mo (Mr ?_);simp only[pz,fc,if_false];refine Mo (NO X hd ?_);simp only;refine Mo ?_;show er _ _ (SM items _ _) _ _ s;rw[<-Array.forIn_toList];refine Pk _ (fun rest r s'=>r.1=none/\s'=s/\∀v∈rest,∃n t,v=pd n t) _ ?_ ?_ _ _ ⟨rfl,rfl,items_int hi⟩
 ·rintro v rest r s' ⟨hr,rfl,hall⟩;obtain⟨i,t,rfl⟩:=hall v MH;refine Mo ?_;unfold G2;refine Mr ?_;simp only[fc,if_false];exact Mr ⟨rfl,rfl,fun u Z=>hall u (My _ Z)⟩
 ·rintro⟨r1,r2⟩ s' ⟨hr,rfl,_⟩;simp only at hr;subst hr;exact Mr h
theorem HD(Y:k_ (nC prog w) s.heap kx ax)(U:∀y∈ys,∃k a,y= .ref a/\k_ (nC prog w) s.heap k a){Q:Bool->c_->Prop}(h:Q dV s):
  er (f_ prog w) A (searchCouldBeSeen (.ref ax) ys) Q E s:=by
 unfold searchCouldBeSeen;refine Mo ?_;refine Pk _ (fun rest r s'=>r.1=none/\s'=s/\∀v∈rest,∃k a,v= .ref a/\k_ (nC prog w) s.heap k a) _ ?_ ?_ _ _ ⟨rfl,rfl,U⟩
 ·rintro v rest r s' ⟨hr,rfl,hall⟩;obtain⟨k,a,rfl,X⟩:=hall v MH;have W:∀u∈rest,∃k a,u= .ref a/\k_ (nC prog w) s'.heap k a:=fun u Z=>hall u (My _ Z);simp only;split
  ·exact Mr ⟨rfl,rfl,W⟩
  ·refine Mo (wpAny_eqIsQuiet_tuple Y ?_);simp only[pz,fc,if_false];refine Mo (wpAny_eqIsQuiet_tuple X ?_);simp only[pz,fc,if_false];refine Mo (oE Y ?_);simp only[fc,if_false];refine Mo (oE X ?_);simp only[fc,if_false];exact Mr ⟨rfl,rfl,W⟩
 ·rintro⟨r1,r2⟩ s' ⟨hr,rfl,_⟩;simp only at hr;subst hr;exact Mr h
abbrev KA:=List Int×dt
def i6(prog:eM)(w:fg)(k:List Int):Int:=tupleKeyHash (nC prog w) k
def ent(prog:eM)(w:fg)(p:KA):Ent:=(i6 prog w p.1,.ref p.2)
def xY(prog:eM)(w:fg)(h:gd)(L:List KA):Prop:=∀p∈L,k_ (nC prog w) h p.1 p.2
structure SetAt(prog:eM)(w:fg)(h:gd)(a:dt)(o:Obj)(es:Array Ent)(ep:Nat)(t:l_)(L:List KA):Prop where
 get:h.get? a=ar o
 ex:o.ExactSet
 dat:o.data= .set es ep t
 ok:TOk t es
 pln:t.plain=b_
 led:t.led= !(w.params.followText "set-order")
 ents:es.toList=L.map (ent prog w)
 nd:(L.map (·.1)).Nodup
theorem SetAt.fits(k:SetAt prog w h a o es ep t L):t.fits es.size=true:=k.ok.fits k.ok.le
theorem SetAt.ent_at(k:SetAt prog w h a o es ep t L)(i:Nat):es[i]? =(L[i]?).map (ent prog w):=by
 rw[<-MV,k.ents,MO]
theorem SetAt.len(k:SetAt prog w h a o es ep t L):es.size=L.length:=by
 rw[<-Of,k.ents,Mq]
theorem CB{t:l_}:t.sameMemory t.moves t.mask=ar true:=by
 unfold SetTable.sameMemory;simp
theorem sW{a ax:dt}{o:Obj}{es:Array Ent}{ep:Nat}{t:l_}{L:List KA}{Z:List Int}(b:A.units<u_)(k:SetAt prog w s.heap a o es ep t L)(g:xY prog w s.heap L)(v:k_ (nC prog w) s.heap Z ax)
  {K:Nat} (B:t.slot (cy t.mask (i6 prog w Z) K).j= .empty) (J:K<10*E_ t.mask) {Q:SetFound->c_->Prop}
  (W:Z∈L.map (·.1)->Q (.there none) s)
  (N:Z∉L.map (·.1)->∀n,t.slot (cy t.mask (i6 prog w Z) n).j= .empty->(∀m,m<n->∃i,t.slot (cy t.mask (i6 prog w Z) m).j= .live i)->Q (.free (cy t.mask (i6 prog w Z) n).j dV) s):
  ∀(fuel n:Nat) (st:Option SetTable.Probe),st.getD (t.probeStart (i6 prog w Z))=cy t.mask (i6 prog w Z) n->n<=K->K - n<fuel->
   (∀m,m<n->∃i,t.slot (cy t.mask (i6 prog w Z) m).j= .live i/\∀p,L[i]? =ar p->p.1≠Z)->er (f_ prog w) A (setSearchFrom a (.ref ax) (i6 prog w Z) b_ fuel st) Q E s
 |0,n,st,e,C,h2,h3=>by omega
 | fuel+1,n,st,e,C,h2,h3=>by
  have odd:t.gaveWay=false:=by
   unfold SetTable.gaveWay;rcases k.ok.msk with h|h<;>rw[h]<;>rfl
  unfold setSearchFrom;refine Mo (NL k.get k.dat k.fits ?_);simp only;rw[odd];simp only[fc,if_false];rw[e];obtain⟨n',g1,g2,g3,g4⟩:=yX k.ok.dum (fun i=>(es[i]?.map (·.1)).getD 0) (i6 prog w Z) K B (10*E_ t.mask) n C (by omega)
  have stored:∀(i:Nat) (p:KA),L[i]? =ar p->(es[i]?.map (·.1)).getD 0=i6 prog w p.1:=fun i p X=>by
   rw[k.ent_at,X];rfl
  have before:∀m,m<n'->∃i,t.slot (cy t.mask (i6 prog w Z) m).j= .live i/\∀p,L[i]? =ar p->p.1≠Z:=fun m hm=>by
   by_cases hmn:m<n
   ·exact h3 m hmn
   ·obtain⟨i,S,f⟩:=g3 m (by omega) hm
    refine⟨i,S,fun p X z=>f ?_⟩;rw[stored i p X,z]
  rcases g4 with⟨c1,c2⟩|⟨i,c1,c2,c3⟩
  ·generalize hpr:t.probe _ (i6 prog w Z) (cy t.mask (i6 prog w Z) n)=pr;have ep:pr=ar (.empty (cy t.mask (i6 prog w Z) n').j none):=hpr.symm.trans c2;subst ep;simp only;refine Mr (N (fun I=>?_) n' c1 fun m hm=>let ⟨i,q,_⟩:=before m hm;⟨i,q⟩);obtain⟨p,X,rfl⟩:=MJ.mp I;obtain⟨G,O⟩:=Oz.mp X;have Y:es[G]? =ar (ent prog w p):=by rw[k.ent_at,O];rfl
   have T:G<t.place.size:=by rw[k.ok.siz];exact(MQ.mp Y).1
   have r:At t.place es t.place[G] (ent prog w p):=⟨G,MA T,Y⟩;obtain⟨c,w1,w2⟩:=k.ok.way _ _ r;have R:(cy t.mask (i6 prog w p.1) c).j=t.place[G]:=w1;rcases Nat.lt_or_ge c n' with l|l
   ·obtain⟨i,S,f⟩:=before c l;rw[R,pJ k.ok.ris (MA T)]at S;cases S;exact f p O rfl
   ·rcases Nat.eq_or_lt_of_le l with l|l
    ·subst l;rw[R,pJ k.ok.ris (MA T)]at c1;cases c1
    ·obtain⟨e',i',S,_⟩:=w2 n' l;have u:t.place[i']? =ar (cy t.mask (i6 prog w p.1) n').j:=S;rw[pJ k.ok.ris u]at c1;cases c1
  ·generalize hpr:t.probe _ (i6 prog w Z) (cy t.mask (i6 prog w Z) n)=pr;have ep:pr=ar (.candidate (cy t.mask (i6 prog w Z) n').j i (cy t.mask (i6 prog w Z) (n'+1))):=hpr.symm.trans c3;subst ep;simp only;have hi:i<es.size:=by rw[<-k.ok.siz];exact(MQ.mp (nY c1)).1
   have U:i<L.length:=by rw[<-k.len];exact hi
   have X:L[i]? =ar L[i]:=Mt U;have Y:es[i]? =ar (ent prog w L[i]):=by rw[k.ent_at,X];rfl
   have H:k_ (nC prog w) s.heap L[i].1 L[i].2:=g _ (Ny U);have d:∀y∈List.map (fun x:Ent=>x.snd) (Array.filter (fun x:Ent=>x.fst==i6 prog w Z) es).toList,∃k a,y= .ref a/\k_ (nC prog w) s.heap k a:=fun y hy=>by
    obtain⟨e1,C,rfl⟩:=MJ.mp hy;have F:e1∈es.toList:=by
     have:=Po.mp C;exact Po.mpr (Array.mem_filter.mp this).1
    rw[k.ents]at F;obtain⟨p,X,rfl⟩:=MJ.mp F;exact⟨p.1,p.2,rfl,g p X⟩
   split
   case' isTrue=>
    refine Mo (HD v d ?_);simp only[fc,if_false]
   all_goals
    rw[Y];simp only[ent];refine Mo (Nd (wpAny_eqBool_tuple b H v ?_));refine Mo (NL k.get k.dat k.fits ?_);by_cases hq:L[i].1=Z
    ·rw[MF hq];simp only[Ra,if_true];exact Mr (W (MJ.mpr ⟨_,Ny U,hq⟩))
    ·rw[MP hq];simp only[O_,fc,if_false];rw[CB];simp only[if_true];rw[c1];simp only;rw[Y];simp only[ent];refine Mo (wpAny_isSame_ref_self (Mo (Mr ?_)));simp only[if_true];refine sW b k g v B J W N fuel (n'+1) _ rfl ?_ ?_ fun m hm=>?_
     ·have:n'≠K:=fun z=>by subst z;rw[B]at c1;cases c1
      omega
     ·have:n'≠K:=fun z=>by subst z;rw[B]at c1;cases c1
      omega
     ·by_cases hmn:m<n'
      ·exact before m hmn
      ·have:m=n':=by omega
       subst this;exact⟨i,c1,fun p P=>by rw[X]at P;cases P;exact hq⟩
end
def JN(L:List KA)(p:KA)(L':List KA):Prop:=(p.1∈L.map (·.1)/\L'=L)\/(p.1∉L.map (·.1)/\L'.Perm (p::L))
section
variable {prog:eM}{w:fg}{A:hI}{E:a_->c_->Prop}{s:c_}
theorem yZ{h:gd}(Y:h.get? a=ar o)(Z:o.data= .set es ep t):(h.update a (L_ es' t')).get? a=ar {o with data:=.set es' (ep+1) t'}:=by
 have:=Np (L_ es' t') Y (by rw[putSet_of es' t' Z];rfl)
 rw[putSet_of es' t' Z]at this;exact this
theorem HE(hu:A.units<u_)(k:SetAt prog w s.heap a o es ep t L)(hL:xY prog w s.heap L)(d:k_ (nC prog w) s.heap kx ax)
  (a3:L.length<18) {Q:Bool->c_->Prop}
  (h:∀b h' o' es' ep' t' J,SetAt prog w h' a o' es' ep' t' J->sA a s.heap h'->JN L (kx,ax) J->Q b {s with heap:=h'}):
  er (f_ prog w) A (setAddHashed a (.ref ax) (i6 prog w kx)) Q E s:=by
 obtain⟨j0,f,x⟩:=AM k.ok.ris k.ok.dum (by rw[k.ok.siz];exact k.ok.le)
 obtain⟨K,v,r⟩:=cover k.ok.msk (i6 prog w kx) j0 f;have a4:10*E_ t.mask<=100000:=by
  unfold E_;rcases k.ok.msk with z|z<;>rw[z]<;>decide
 unfold setAddHashed setAddHashedIn;refine Nd (Mo (NL k.get k.dat k.fits ?_));have u:byScan (.ref ax) es=false:=by simp[byScan,Value.scannable]
 simp only[u,fc,if_false];unfold setSearch;refine Mo ?_;refine sW hu k hL d (by rw[r];exact x) v ?_ ?_ 100000 0 none rfl (ML _) (by omega) (fun m hm=>by omega)
 ·intro Y;simp only;refine Mr ?_;have e:s={s with heap:=s.heap}:=by cases s;rfl
  rw[e];exact h _ s.heap o es ep t L k (Heap.SameBut.refl a s.heap) (.inl ⟨Y,rfl⟩)
 ·intro Y n hn hb;simp only;refine Mo (NL k.get k.dat k.fits ?_);generalize hj:(cy t.mask (i6 prog w kx) n).j=j at hn;have I:j<=t.mask:=by
   rw[<-hj];rcases Nat.eq_zero_or_pos n with z|z
   ·subst z;show SetTable.bits _ % (t.mask+1)<=t.mask;have:=Qc (SetTable.bits (i6 prog w kx)) (show t.mask+1>0 by omega)
    omega
   ·exact EJ _ _ _ k.ok.msk
  obtain⟨T,B,y,G⟩:=HA (e:=ent prog w (kx,ax)) (K:=n) k.ok.toTPre I hn hj fun m hm=>by
   obtain⟨i,q⟩:=hb m hm;obtain⟨e',_,q'⟩:=k.ok.toTPre.at_of (nY q);exact⟨e',q'⟩
  generalize hP:t.put j=P at T B y G⊢;obtain⟨t1,pp⟩:=P;simp only at T B y G⊢;have T:TPre t1 (e_ es pp (i6 prog w kx,ey ax)):=T;rw[if_pos (by rw[G];exact k.pln)]
  refine Mo (AR d ?_);simp only[if_true];have Z:(e_ es pp (i6 prog w kx,ey ax)).size=es.size+1:=qx _ _ _;have hlen:=k.len;refine Mo (wpAny_storeSet_of k.get k.dat ?_ (by rw[Z,Nq];omega))
  have g1:=yZ (es':=e_ es pp (i6 prog w kx,ey ax)) (t':=t1) k.get k.dat;have C:=NM s.heap a (L_ (e_ es pp (i6 prog w kx,ey ax)) t1);have X:(e_ es pp (i6 prog w kx,ey ax)).toList=(L.take pp++(kx,ax)::L.drop pp).map (ent prog w):=by
   rw[SetTable.toList_insertAt,k.ents,NC,MU,QP,List.map_drop];rfl
  have W:(L.take pp++(kx,ax)::L.drop pp).Perm ((kx,ax)::L):=by
   have:=List.perm_middle (a:=(kx,ax)) (l₁:=L.take pp) (l₂:=L.drop pp)
   rwa [List.take_append_drop]at this
  have g:((kx::L.map (·.1))).Nodup:=Nj.mpr ⟨Y,k.nd⟩;have H:∀J:List KA,J.Perm ((kx,ax)::L)->(J.map (·.1)).Nodup:=fun J hp=>(Oh (hp.map (fun p:KA=>p.1))).mpr g;by_cases hful:t1.tooFull=b_
  ·rw [hful];simp only[Bool.not_false,Ra,if_true];have N:(es.size+1)*5 ≥ t.mask*3:=by
    unfold SetTable.tooFull SetTable.fill at hful;rw[T.siz,T.dum,B,Z]at hful;simpa using hful
   have c:es.size+1=5:=by
    have:=k.ok.few;rcases k.ok.msk with z|z<;>rw[z]at N this<;>omega
   obtain⟨l,ord,r1,r2,r3,r4,r5,r6⟩:=AQ (t:=t1) (es:=e_ es pp (i6 prog w kx,ey ax)) (by rw[Z];exact c)
   have F:t1.fits (e_ es pp (i6 prog w kx,ey ax)).size=true:=T.fits (by
    rw[Z,B];have:=k.ok.few;rcases k.ok.msk with z|z<;>rw[z]at this⊢<;>omega)
   unfold setRelay;refine Mo (Mo (NL (s:={s with heap:=s.heap.update a (L_ (e_ es pp (i6 prog w kx,ey ax)) t1)}) g1 rfl F ?_));simp only;rw[c];rw[if_neg (by rw[Nq];decide)]
   rw[r1];refine Mo ?_;have step:∀(R:Array Ent×l_->c_->Prop) (s1:c_),R (ord.filterMap ((e_ es pp (i6 prog w kx,ey ax))[·]?),l) s1->
     er (f_ prog w) A (if ((ord.filterMap ((e_ es pp (i6 prog w kx,ey ax))[·]?)).size !=(e_ es pp (i6 prog w kx,ey ax)).size)=b_
      then (do unsupported "internal:set-table-lost-an-element";aC (ord.filterMap ((e_ es pp (i6 prog w kx,ey ax))[·]?),l))else aC (ord.filterMap ((e_ es pp (i6 prog w kx,ey ax))[·]?),l)) R E s1:=fun R s1 hR=>by
    rw[if_neg (by rw[r3];simp)]
    exact Mr hR
   refine step _ _ ?_;refine wpAny_storeSet_of (s:={s with heap:=s.heap.update a (L_ (e_ es pp (i6 prog w kx,ey ax)) t1)}) g1 rfl ?_ (by rw[r3,Z,Nq];omega)
   have O:(ord.filterMap ((e_ es pp (i6 prog w kx,ey ax))[·]?)).toList=(ord.toList.filterMap ((L.take pp++(kx,ax)::L.drop pp)[·]?)).map (ent prog w):=by
    rw[Array.toList_filterMap,List.map_filterMap];refine m7 fun i _=>?_;rw[<-MV,X,MO]
   have U:(ord.toList.filterMap ((L.take pp++(kx,ax)::L.drop pp)[·]?)).Perm ((kx,ax)::L):=by
    refine(r2.filterMap _).trans ?_;have e1:(e_ es pp (i6 prog w kx,ey ax)).size=(L.take pp++(kx,ax)::L.drop pp).length:=by
     rw[<-Of,X,Mq]
    rw[e1,OM];exact W
   refine Mr (h _ _ _ _ _ _ _ ⟨yZ g1 rfl,k.ex,rfl,r4,by rw[r6,G];exact k.pln,by rw[r5,y];exact k.led,O,H _ U⟩ (C.trans (NM _ a _)) (.inr ⟨Y,U⟩))
  ·simp only[hful,O_,fc,if_false];refine Mr ?_;refine h _ _ _ _ _ _ _ ⟨g1,k.ex,rfl,⟨T,?_⟩,by rw[G];exact k.pln,by rw[y];exact k.led,X,H _ W⟩ C (.inr ⟨Y,W⟩)
   unfold SetTable.tooFull SetTable.fill at hful;rw[T.siz,T.dum]at hful;have S:¬ (e_ es pp (i6 prog w kx,ey ax)).size*5 ≥ t1.mask*3:=by simpa using hful
   exact Nat.lt_of_not_ge S
end
theorem xZ{h':gd}(x:k_ (nC prog w) h k a)(e:∀o,h.get? a=ar o->h'.get? a=ar o):k_ (nC prog w) h' k a:=
 let ⟨o,its,n,ho,r⟩:=x
 ⟨o,its,n,e o ho,r⟩
theorem SetAt.at{h':gd}(k:SetAt prog w h a o es ep t L)(e:∀o,h.get? a=ar o->h'.get? a=ar o):SetAt prog w h' a o es ep t L:=
 {k with get:=e o k.get}
structure Folded(kv L:List KA):Prop where
 nd:(L.map (·.1)).Nodup
 mem:∀k,k∈L.map (·.1)↔k∈kv.map (·.1)
 sub:∀p∈L,p∈kv
 len:L.length<=kv.length
theorem Folded.nil:Folded [] []:=⟨.nil,fun _=>.rfl,fun _ h=>h,Ms _⟩
theorem Folded.add(f:Folded kv L)(h:JN L p L'):Folded (kv++[p]) L':=by
 rcases h with⟨h1,rfl⟩|⟨h1,h2⟩
 ·refine⟨f.nd,fun k=>?_,fun q Z=>OL _ (f.sub q Z),by have:=f.len;simp;omega⟩
  rw[f.mem,NC,NQ];refine⟨.inl,fun z=>z.elim id fun z=>?_⟩;have:k=p.1:=by simpa using z
  rw[this];exact(f.mem _).mp h1
 ·have hm:=h2.map (fun q:KA=>q.1);refine⟨(Oh hm).mpr (Nj.mpr ⟨h1,f.nd⟩),fun k=>?_,fun q Z=>?_,by have:=f.len;rw[h2.length_eq];simp;omega⟩
  ·rw[hm.mem_iff,MU,MK,f.mem,NC,NQ];constructor
   ·rintro(rfl|z)
    ·exact .inr (by simp)
    ·exact .inl z
   ·rintro(z|z)
    ·exact .inr z
    ·exact .inl (by simpa using z)
  ·rcases MK.mp (h2.mem_iff.mp Z)with rfl|z
   ·exact MX _ (NH.mpr rfl)
   ·exact OL _ (f.sub q z)
section
variable {prog:eM}{w:fg}{A:hI}{R:Sx->c_->Prop}{I:dt}{fp wr:List dt}{G:Array P_->Array P_->Prop}{n:Nat}{P:Nat->a_->Prop}{St:Nat->c_->Prop}
theorem EM(W:WalksS prog w A.in1 I fp wr G n P St)(E:S∉fp)(Z:Nat->KA)(B:∀i v,P i v->v= .ref (Z i).2)(hn:n<=18)(f:A.in1.units<u_)(x:∀i,i<n->(Z i).2∉S::wr):
  ∀(c i:Nat) (s:c_),n - i=c->i<=n->St i s->(∀j,j<n->k_ (nC prog w) s.heap (Z j).1 (Z j).2)->∀o es ep t L,SetAt prog w s.heap S o es ep t L->Folded ((eb i).map Z) L->
   (∀s',Moved (S::wr) G s s'->∀o es ep t L,SetAt prog w s'.heap S o es ep t L->Folded ((eb n).map Z) L->R (.ok (.ret .none)) s')->
   B_ (f_ prog w) A (.builtin "set.update.loop" ⟨[.ref S,.ref I],[]⟩) R s:=by
 have y:S∉wr:=fun h=>E (W.sub _ h);have Y:∀b∈wr,b∈S::wr:=fun b J=>My _ J;intro c
 induction c with
 |zero=>
  intro i s hc hi O d o es ep t L q C g;obtain rfl:i=n:=by omega
  refine OB F.entry_set_update_loop ?_;rw[N9 O1 _];show er _ A.in1 (z7 (.ref I)>>=_) _ _ s;refine Mo (W.done s _ _ O fun s' hm=>?_);show er _ A.in1 (ret hO) _ _ s';exact Mr (g s' (hm.mono Y) o es ep t L (q.at fun N e=>hm.heap S N y e) C)
 | succ c ih=>
  intro i s hc hi O d o es ep t L q C g;have X:i<n:=by omega
  refine OB F.entry_set_update_loop ?_;rw[N9 O1 _];show er _ A.in1 (z7 (.ref I)>>=_) _ _ s;refine Mo (W.item i s _ _ X O fun v s' hP H hm=>?_);cases B i v hP;have r:=q.at (h':=s'.heap) fun N e=>hm.heap S N y e;have U:∀j,j<n->k_ (nC prog w) s'.heap (Z j).1 (Z j).2:=fun j Q=>xZ (d j Q) fun N e=>hm.heap _ N (fun z=>x j Q (Y _ z)) e;show er _ A.in1 (A' [ey (Z i).2] (setAdd S (.ref (Z i).2))>>=_) _ _ s';refine Mo (Nd ?_);unfold setAdd;refine Nd ?_;refine Mo (wpAny_pyHash_tuple f (U i X) ?_);have a6:L.length<=i:=by have:=C.len;simpa using this
  have m:xY prog w s'.heap L:=fun p hp=>by
   obtain⟨j,Q,rfl⟩:=MJ.mp (C.sub p hp);exact U j (PV (MC.mp Q) X)
  refine HE (s:={s' with toks:=s'.toks+((Z i).1.length+1)}) f r m (U i X) (by omega) fun b h' N es' a7 t' a l T hA=>?_
  have k:Folded ((eb (i+1)).map Z) a:=by
   rw[List.range_succ,NC];exact C.add hA
  refine Mr ⟨Qo O1 _,ih (i+1) _ (by omega) X (W.frame _ s' _ _ H (Ol _ _) fun b J o e=>?_) (fun j Q=>xZ (U j Q) fun o e=>?_) _ _ _ _ _ l k fun u K=>?_⟩
  ·rw[T.2 b (fun h:b=S=>E (by rw[<-h];exact J))];exact e
  ·rw[T.2 _ (fun h=>x j Q (by rw[h];exact MH))];exact e
  ·refine g u (Moved.trans W.gtrans ((hm.mono Y).then_heap (Ol _ _) fun b o J e=>?_) K);rw[T.2 b (fun h:b=S=>J (by rw[h];exact MH))];exact e
end
section
variable {prog:eM}{w:fg}{A:hI}{E:a_->c_->Prop}{s:c_}
theorem v7:Rz (.type "tuple") (.type "set")=aC false:=by rw[Pe];kernel_rfl
theorem uE:Rz (.type "tuple") (.type "frozenset")=aC false:=by rw[Pe];kernel_rfl
def eP(led:Bool):Obj:={cls:=.type "set",dict:=none,data:=.set #[] 0 (.fresh 0 0 led)}
def jd(w:fg):Bool:= !(w.params.followText "set-order")
def Src(h:gd)(x:dt)(items:Array a_):Prop:=h.IsList x items\/h.IsTuple x items
theorem Src.at{h':gd}(r:Src h x items)(e:∀o,h.get? x=ar o->h'.get? x=ar o):Src h' x items:=by
 rcases r with⟨o,ho,r⟩|⟨o,ho,r⟩
 ·exact .inl ⟨o,e o ho,r⟩
 ·exact .inr ⟨o,e o ho,r⟩
theorem Src.lt(r:Src h x items):x<h.objs.size:=by
 rcases r with⟨o,ho,_⟩|⟨o,ho,_⟩<;>exact Mx ho
theorem CC(r:Src s.heap x items)
  (h:∀(ob:Obj) (St:Nat->gd->Prop),(∀Y:hI,Y.handled=none->Walks prog w Y s.heap.objs.size [s.heap.objs.size,x] [s.heap.objs.size] items.size (fun i v=>items[i]? =ar v) St)->St 0 (s.heap.push ob)->
   Q (.ref s.heap.objs.size) {s with heap:=s.heap.push ob}):er (f_ prog w) A (RN (.ref x)) Q E s:=by
 have Z:x≠s.heap.objs.size:=MD r.lt;rcases r with r|r
 ·refine P7 r (h _ _ (fun Y X=>Walks.list X s.heap.objs.size x Z items) ⟨⟨_,Mz _ rfl,rfl,rfl⟩,r.push _⟩)
 ·refine NU r (h _ _ (fun Y X=>Walks.tuple X s.heap.objs.size x Z items) ⟨⟨_,Mz _ rfl,rfl,rfl⟩,?_⟩);obtain⟨o,W,q⟩:=r;exact⟨o,Mp _ W,q⟩
theorem Ly(a:a_){Q1:a_->c_->Prop}(h:Q1 (.ref s.heap.objs.size) {s with heap:=s.heap.push (eP (jd w))}):
  B_ (f_ prog w) A (.call (.builtin "set.__new__") ⟨[.type "set",a],[]⟩) (wants Q1 E) s:=by
 refine QG ?_;show er _ A.in1 (do K' "set.__new__" ⟨[.type "set",a],[]⟩;RO (.builtin "set.__new__" ⟨[.type "set",a],[]⟩)) _ _ s
 refine Mo (RE (F.newCall_set_1 a) (Mr ⟨Qo F.plain_set_new _,OB F.entry_set_new ?_⟩));rw[N9 F.plain_set_new _];unfold Builtin.«set.__new__» Builtin.Frozenset.newClass;have Z:=sub_set_self;obtain⟨X,g,d,Y,os⟩:=s;dsimp only
 wp_walk
 refine OQ (Mr ?_);dsimp only;simp only[newObj];exact Mo (wpAny_alloc (Mr (Mr h)))
theorem CD(r:Src s.heap x items):∃T,s.TypeIs (.ref x) T/\Rz (.type T) (.type "set")=aC dV/\Rz (.type T) (.type "frozenset")=aC dV/\(t7 T==t7 "dict")=false:=by
 rcases r with⟨o,ho,hc,_⟩|⟨o,ho,hc,_⟩
 ·exact⟨"list",⟨o,ho,hc⟩,F.sub_list_set,F.sub_list_frozenset,by decide⟩
 ·exact⟨"tuple",⟨o,ho,hc⟩,v7,uE,by decide⟩
set_option maxHeartbeats 8000000 in
theorem HF(hh:A.handled=none)(g:A.in1.in1.in1.units<u_)(r:Src s.heap x items)(X:Nat->KA)(T:∀(i:Nat) (v:a_),items[i]? =ar v->v= .ref (X i).2)(hn:items.size<=18)
  (n:∀j,j<items.size->k_ (nC prog w) s.heap (X j).1 (X j).2)
  (h:∀(h':gd) (tk:Nat) o es ep t L,SetAt prog w h' s.heap.objs.size o es ep t L->Folded ((eb items.size).map X) L->(∀b o,b<s.heap.objs.size->s.heap.get? b=ar o->h'.get? b=ar o)->
   Q (.ref s.heap.objs.size) {s with heap:=h',toks:=tk}):er (f_ prog w) A (call (.type "set") [.ref x]) Q E s:=by
 obtain⟨c,tl,m⟩:=F.called_set.mro;have I:=F.called_set.made;have B:=F.called_set.sub;refine O8 (QG ?_);show er _ _ (callAny (.type "set") _) _ _ _;refine Mr ⟨PY _ (by decide+kernel),OB F.entry_type_call ?_⟩
 rw[Around.under_plain (weight_type_call_type "set" [.ref x] []) rfl];have h1:=F.called_set.notType;have h2:=F.called_set.canCreate;have b2:=F.typeCall_set_1 (.ref x)
 repeat (any_goals (first|assumption|wp_step))
 refine Od (Ly (.ref x) (E:=E) (Q1:=fun obj s1=>obj= .ref s.heap.objs.size/\s1={s with heap:=s.heap.push (eP (jd w))}) ⟨rfl,rfl⟩) fun rr s1 K=>?_;cases rr with
 |error e=>exact K
 | ok fl=>
  cases fl with
  | ret obj=>
   obtain⟨rfl,rfl⟩:=K;have z:(s.heap.push (eP (jd w))).get? s.heap.objs.size=ar (eP (jd w)):=Mz _ rfl;have y:Rb {s with heap:=s.heap.push (eP (jd w))} (.ref s.heap.objs.size) "set":=⟨_,z,rfl⟩;have a:=F.called_set.init.lookup;have l:=F.called_set.init.bind (.ref s.heap.objs.size)
   repeat (any_goals (first|assumption|wp_step))
   refine Od (Pw (R:=wants (fun r s2=>r= .none/\Q (.ref s.heap.objs.size) s2) E) F.called_set.init.plain F.entry_set_init (check_set_init_1 y ?_)) fun r2 s2 Z=>?_
   ·have q:Src (s.heap.push (eP (jd w))) x items:=r.at fun o e=>Mp _ e;obtain⟨Tx,a8,d,a9,hd⟩:=CD (s:={s with heap:=s.heap.push (eP (jd w))}) q;unfold Builtin.«set.__init__» noKeywords Builtin.Frozenset.updateFrom;generalize hPI:RN=PI;have k:=y;unfold eP at z
    wp_walk
    subst hPI;refine CC (s:={s with heap:=s.heap.push (eP (jd w))}) q fun p St W C=>?_;refine Mo (wpAny_runValue ?_);have G:x<s.heap.objs.size:=r.lt;have Y:(s.heap.push (eP (jd w))).objs.size=s.heap.objs.size+1:=NB _ _;have O:s.heap.objs.size∉[(s.heap.push (eP (jd w))).objs.size,x]:=by
     rw[Y];simp only[f',fb,or_false,not_or];exact⟨MD (Oj _),NZ G⟩
    have J:A.in1.in1.in1.handled=none:=by simp[hh]
    have up:∀b o,s.heap.get? b=ar o->((s.heap.push (eP (jd w))).push p).get? b=ar o:=fun b o e=>Mp _ (Mp _ e);have S:∀j,j<items.size->(X j).2<s.heap.objs.size:=fun j U=>let ⟨_,_,_,e,_⟩:=n j U;Mx e;have S0:SetAt prog w ((s.heap.push (eP (jd w))).push p) s.heap.objs.size (eP (jd w)) #[] 0 (.fresh 0 0 (jd w)) []:=
     ⟨Mp _ (Mz _ rfl),⟨rfl,rfl,rfl⟩,rfl,Cv _,rfl,rfl,rfl,.nil⟩
    refine EM ((W _ J).toS) O X T hn g (fun j U=>?_) (items.size - 0) 0 _ rfl (ML _) C (fun j U=>xZ (n j U) fun o e=>up _ o e) _ _ _ _ _ S0 .nil fun s' hm o es ep t L P hF=>?_
    ·rw[Y];have:=S j U;simp only[f',fb,or_false,not_or];exact⟨MD this,MD (Nz this)⟩
    ·obtain⟨h',g',d',N,H⟩:=s';have eg:g'=s.gens:=hm.gens;have ed:d'=s.drawn:=hm.drawn;have f:H=s.os:=hm.os;subst eg ed f;show er _ _ _ _ _ _;refine Mr ?_;show er _ _ (ret hO) _ _ _;refine Mr ⟨rfl,h h' N o es ep t L P hF fun b o u e=>?_⟩;refine hm.heap b o ?_ (up b o e);rw[Y];simp only[f',fb,or_false,not_or];exact⟨MD u,MD (Nz u)⟩
   ·cases r2 with
    |error e=>exact Z
    | ok fl2=>
     cases fl2 with
     |ret rv=>
      obtain⟨rfl,hq⟩:=Z
      repeat (any_goals (first|assumption|wp_step))
     |_=>exact Z.elim
  |_=>exact K.elim
end
theorem qB{Z:Type}:∀{l:List Z} {i:Nat} {x:Z},l[i]? =ar x->l.Perm (x::l.eraseIdx i)
 |[],_,_,h=>by simp at h
 |y::l,0,x,h=>by simp at h;subst h;exact .refl _
 |y::l,i+1,x,h=>by
  have:=qB (l:=l) (i:=i) (x:=x) (by simpa using h)
  rw[List.eraseIdx_cons_succ];exact(EA y this).trans (.swap _ _ _)
theorem y0{X:Type}(Z:Nat->Nat):∀(fuel k:Nat) (left:List X) (out:Array X),left.length=fuel->(Rq Z fuel k left out).toList.Perm (out.toList++left)
 |0,k,left,out,h=>by
  have:left=[]:=Qp.mp h;subst this;unfold Rq;simp
 |fuel+1,k,left,out,h=>by
  unfold Rq;have Y:Z k % left.length<left.length:=Qc _ (by omega)
  have W:left[Z k % left.length]? =ar left[Z k % left.length]:=Mt Y
  rw[W];simp only;refine(y0 Z fuel (k+1) _ _ (by rw[PN Y];omega)).trans ?_
  rw[Array.toList_push,MY];exact List.Perm.append_left _ (qB W).symm
theorem AS{Y:Type}(Z:Nat->Nat)(xs:Array Y):(RA Z xs).toList.Perm xs.toList:=by
 have:=y0 Z xs.size 0 xs.toList #[] (by simp)
 simpa [RA]using this
def kc(w:fg)(a:dt)(ep:Nat)(es:Array Ent):Array Ent:=if w.params.followText "set-order"=b_ then RA (w.params.setOrder a ep) es else es
theorem sX(w:fg)(a:dt)(ep:Nat)(es:Array Ent):(kc w a ep es).toList.Perm es.toList:=by
 unfold kc;split
 ·exact AS _ _
 ·exact .refl _
theorem ll(w:fg)(a:dt)(ep:Nat)(es:Array Ent):(kc w a ep es).size=es.size:=by
 have:=(sX w a ep es).length_eq;simpa using this
theorem fq:Slot "set_iterator" "__next__" "set_iterator.__next__":=
 .of (owner:="set_iterator") (n:="__next__") (by rw[QH,Pj];kernel_rfl) (by decide+kernel) (by decide+kernel) (by decide+kernel)
  (by first|exact .inl (by decide+kernel)|exact .inr (by decide+kernel)) (by rw[Pe];kernel_rfl)
theorem lM:Sq table "set_iterator.__next__"=ar Builtin.«set_iterator.__next__»:=entryFor_of_fast (by kernel_rfl)
theorem m9(a:a_):SD "set_iterator.__next__" ⟨[a],[]⟩:=by unfold SD;kernel_rfl
theorem qC:Sq table "set.__iter__"=ar Builtin.«frozenset.__iter__»:=
 entryFor_alias (id':="frozenset.__iter__") (by kernel_rfl) rfl (by decide+kernel) (by kernel_rfl)
section
variable {prog:eM}{w:fg}{A:hI}{E:a_->c_->Prop}{s:c_}
def gY(w:fg)(t:l_)(i:Nat):Nat:=if w.params.followText "set-order"=b_ then 0 else match i with
 |0=>0
 |i+1=>t.place.getD i 0+1
structure IterAt(w:fg)(h:gd)(I a:dt)(t:l_)(sz ep i:Nat):Prop where
 ex:∃o,h.get? I=ar o/\o.cls= .type "set_iterator"/\o.data= .fields #[.int (gY w t i) 0,.int i 0,.ref a,.int sz 0,.int ep 0]
theorem IterAt.typeIs(k:IterAt w s.heap I a t sz ep i):s.TypeIs (.ref I) "set_iterator":=
 let ⟨o,ho,hc,_⟩:=k.ex
 ⟨o,ho,hc⟩
theorem y9(k:SetAt prog w s.heap a o es ep t L)(hi:i<=es.size){Q:Option (a_×Nat)->c_->Prop}
  (h:Q (((kc w a ep es)[i]?).map fun e=>(e.2,gY w t (i+1))) s):er (f_ prog w) A (setNext a (gY w t i) i ep) Q E s:=by
 unfold setNext;refine Mo (NL k.get k.dat k.fits ?_);simp only;unfold RZ;refine Mo (Mo (OQ (Mr ?_)));show er _ _ (if (w.params.followText "set-order")=b_ then _ else _) _ _ s;by_cases hw:w.params.followText "set-order"=b_
 ·rw[if_pos hw];simp only[bne_self_eq_false,fc,if_false];unfold setWalk;refine Mo (Mo (NL k.get k.dat k.fits ?_));simp only;unfold RZ;refine Mo (Mo (OQ (Mr ?_)));show er _ _ (if (w.params.followText "set-order")=b_ then _ else _) _ _ s;rw[if_pos hw];refine Mo (OQ (Mr ?_));refine Mr ?_;have e1:kc w a ep es=RA (w.params.setOrder a ep) es:=by unfold kc;rw[if_pos hw]
  have e2:∀j,gY w t j=0:=fun j=>by unfold gY;rw[if_pos hw]
  rw[e1,e2]at h;rw[e2];exact h
 ·rw [if_neg hw];have P:(!t.plain && decide (es.size>1))=false:=by rw[k.pln];rfl
  have K:t.led=true:=by rw[k.led];simpa using hw
  have e1:kc w a ep es=es:=by unfold kc;rw[if_neg hw]
  have e2:∀j,gY w t j=match j with|0=>0|j+1=>t.place.getD j 0+1:=fun j=>by unfold gY;rw[if_neg hw]
  have J:QO t.place (gY w t i)=i:=by
   obtain⟨T,Y,X⟩:=qw k.ok.ris (gY w t i);cases i with
   | zero=>
    rw[e2]at T Y X⊢;simp only at T Y X⊢;rcases Nat.eq_zero_or_pos (QO t.place 0)with z|z
    ·exact z
    ·have Z:0<t.place.size:=by omega
     have:=Y 0 _ z (MA Z);omega
   | succ i=>
    have W:i<t.place.size:=by rw[k.ok.siz];omega
    have S:t.place.getD i 0=t.place[i]:=by simp[RY,W]
    rw[e2]at T Y X⊢;simp only[S]at T Y X⊢;have O:=MA W;rcases Pb (QO t.place (t.place[i]+1)) (i+1)with l|l|l
    ·have:=X i _ (by omega) O
     omega
    ·exact l
    ·have Z:i+1<t.place.size:=by omega
     have G:=Y (i+1) _ l (MA Z);have H:=k.ok.ris i (i+1) _ _ (by omega) O (MA Z)
     omega
  generalize hu:PySem.unsupported=U;show er _ _ (if (!t.plain && decide (es.size>1))=b_ then _ else _) _ _ s;rw[P];simp only[fc,if_false];have hm:∀R:Unit->c_->Prop,R () s->er (f_ prog w) A (if (!t.led && !es.isEmpty)=b_ then unsupported "set:maker-not-led" else aC ()) R E s:=fun R I=>by
   rw[K];simp only[pz,Bool.false_and,fc,if_false];exact Mr I
  refine Mo (hm _ ?_);refine Mr ?_;rw[J];rw[e1,e2]at h;simp only at h;by_cases Z:i<es.size
  ·have N:i<t.place.size:=by rw[k.ok.siz];exact Z
   have S:t.place.getD i 0=t.place[i]:=by simp[RY,N]
   rw[MA Z,S]at h;rw[MA Z,MA N];exact h
  ·rw[NJ (by omega)]at h
   rw[NJ (by omega)]
   exact h
end
theorem CF{Y W:Type}{f:Y->W}{l X:List W}(h:l.Perm X):∀L:List Y,X=L.map f->∃Z:List Y,Z.Perm L/\l=Z.map f:=by
 induction h with
 |nil=>intro L e;exact⟨[],by rw[List.map_eq_nil_iff.mp e.symm],rfl⟩
 | cons x _ ih=>
  intro L e;cases L with
  |nil=>cases e
  |cons y L=>
   rw[MU]at e;injection e with e1 e2;obtain⟨Z,p,q⟩:=ih L e2;exact⟨y::Z,p.cons y,by rw[q,e1];rfl⟩
 | swap x y l=>
  intro L e
  match L,e with
  |[],e=>cases e
  |[_],e=>rw[MU]at e;injection e with _ e;cases e
  |a::b::L,e=>
   rw[MU,MU]at e;injection e with e1 e2;injection e2 with e2 e3;exact⟨b::a::L,.swap _ _ _,by rw[e1,e2,e3];rfl⟩
 |trans _ _ ih1 ih2=>
  intro L e;obtain⟨L1,T,Q⟩:=ih2 L e;obtain⟨R,S,U⟩:=ih1 L1 Q;exact⟨R,S.trans T,U⟩
section
variable {prog:eM}{w:fg}{A:hI}{E:a_->c_->Prop}{s:c_}
theorem sY{h:gd}{g:Array a_->Array a_}(Y:h.get? I=ar o)(Z:o.data= .fields fs):
  ∃o',(h.update I (y_ g)).get? I=ar o'/\o'.cls=o.cls/\o'.data= .fields (g fs):=
 ⟨_,Np _ Y (OC (NV Z _)),Qh ..,NV Z _⟩
theorem next_item{Q:Option a_->c_->Prop}(k:SetAt prog w s.heap a o es ep t L)(Z:IterAt w s.heap I a t es.size ep i)(T:I≠a)
  (U:(kc w a ep es)[i]? =ar e) (P:∀h',IterAt w h' I a t es.size ep (i+1)->sA I s.heap h'->Q (ar e.2) {s with heap:=h'}):er (f_ prog w) A (z7 (.ref I)) Q E s:=by
 obtain⟨J,Y,K,hd⟩:=Z.ex;have X:i<es.size:=by rw[<-ll w a ep es];exact(MQ.mp U).1
 unfold z7;refine Mo (OH (wpAny_callSpecial?_slot (name:=hY "__next__") Z.typeIs fq
  (Ng fq Z.typeIs lM ?_ (m9 _))))
 unfold Builtin.«set_iterator.__next__»;refine Mo (m:=Sr "__next__" 0 _) (Mr ?_);refine Mo (wpAny_fieldsOf Y hd ?_);simp only;refine Mo (PH k.get k.dat k.fits ?_);rw[if_neg (by simp)]
 refine Mo ?_;rw[M8,M8,M8];refine y9 k (N5 X) ?_;rw[U];simp only[z6];refine Mo (Oo Y hd (by simp) ?_)
 obtain⟨S,g1,O,W⟩:=sY (g:=fun fs=>fs.set! 0 (mv (gY w t (i+1):Nat))) Y hd;refine Mo (Oo (o:=S) (s:={s with heap:=_}) g1 W (by simp) (Mr ⟨e.2,rfl,Mr (P _ ?_ ((NM ..).trans (NM ..)))⟩))
 obtain⟨o2,g2,R,N⟩:=sY (g:=fun fs=>fs.set! 1 (mv ((i:Int)+1))) g1 W;refine⟨o2,g2,by rw[R,O];exact K,?_⟩
 rw[N];simp[mv]
theorem next_end{Q:Option a_->c_->Prop}(X:A.handled=none)(k:SetAt prog w s.heap a o es ep t L)(Z:IterAt w s.heap I a t es.size ep es.size)
  (W:∀h',RF I s.heap h'->Q none {s with heap:=h'}):er (f_ prog w) A (z7 (.ref I)) Q E s:=by
 obtain⟨U,Y,S,hd⟩:=Z.ex;unfold z7;refine Mo (OH (wpAny_callSpecial?_slot (name:=hY "__next__") Z.typeIs fq
  (Ng fq Z.typeIs lM ?_ (m9 _))))
 unfold Builtin.«set_iterator.__next__»;refine Mo (m:=Sr "__next__" 0 _) (Mr ?_);refine Mo (wpAny_fieldsOf Y hd ?_);simp only;refine Mo (PH k.get k.dat k.fits ?_);rw[if_neg (by simp)]
 refine Mo ?_;rw[M8,M8,M8];refine y9 k (Ms _) ?_;rw[NJ (by rw[ll];exact Ms _)]
 simp only[Option.map_none];refine Mo (Oo Y hd (by simp) ?_)
 show er _ _ (SF (.type "StopIteration") []>>=_) _ _ _;refine Mo ?_;simp only[SF,newTuple];refine Mo (M0 ?_ (by size_fits))
 refine Mo (m:=Fn _ _) (RE (a:=hO) (by first|rfl|(simp only[Fn];rfl)) ?_)
 refine M0 ?_ (by size_fits)
 simp only[raiseNew];refine Mo (wpAny_handled ?_);first|rw[show A.in1.handled=none from X]|rw[X]
 refine Mo (Mr (wpAny_throw ?_));refine Mo (Om (T:="StopIteration") (b:=b_) ⟨_,Mz _ rfl,rfl⟩ Pf ?_);exact Mr (W _ (((NM ..).extBut.push _).push _))
theorem IterAt.at{h':gd}(k:IterAt w h I a t sz ep i)(e:∀o,h.get? I=ar o->h'.get? I=ar o):IterAt w h' I a t sz ep i:=
 let ⟨o,ho,r⟩:=k.ex
 ⟨⟨o,e o ho,r⟩⟩
theorem ng:Slot "set_iterator" "__iter__" "set_iterator.__iter__":=
 .of (owner:="set_iterator") (n:="__iter__") (by rw[QH,Pj];kernel_rfl) (by decide+kernel) (by decide+kernel) (by decide+kernel)
  (by first|exact .inl (by decide+kernel)|exact .inr (by decide+kernel)) (by rw[Pe];kernel_rfl)
theorem se:Sq table "set_iterator.__iter__"=ar Builtin.«dict_keyiterator.__iter__»:=
 entryFor_alias (id':="dict_keyiterator.__iter__") (by kernel_rfl) rfl (by decide+kernel) (by kernel_rfl)
theorem uF(a:a_):SD "set_iterator.__iter__" ⟨[a],[]⟩:=by unfold SD;kernel_rfl
theorem CG{Q:a_->c_->Prop}(k:SetAt prog w s.heap a o es ep t L)
  (P:∀ob,IterAt w (s.heap.push ob) s.heap.objs.size a t es.size ep 0->Q (.ref s.heap.objs.size) {s with heap:=s.heap.push ob}):er (f_ prog w) A (RN (.ref a)) Q E s:=by
 have U:s.TypeIs (.ref a) "set":=⟨o,k.get,k.ex.1⟩;refine wpAny_pyIter_slot U F.slot_set_iter (Ng F.slot_set_iter U qC ?_ (F.args_set_iter_1 _));unfold Builtin.«frozenset.__iter__» Builtin.Frozenset.slot0;refine Mo (Mo (m:=Sr "__iter__" 0 _) (Mr ?_));refine Mr ?_;unfold Builtin.Frozenset.sizeOf;refine Mo (Mo (PH k.get k.dat k.fits (Mr ?_)));unfold setDrawn;refine Mo (Mo (NL k.get k.dat k.fits ?_));simp only;unfold RZ;refine Mo (Mo (OQ (Mr ?_)));refine Mr ?_;have W:(!(w.params.followText "set-order") && (!t.plain && decide (es.size>1)))=false:=by rw[k.pln];simp
 have Z:∀(X Y:Sem Fin) (R:Fin->c_->Prop),er (f_ prog w) A.in1 Y R E s->er (f_ prog w) A.in1 (if (!(w.params.followText "set-order") && (!t.plain && decide (es.size>1)))=b_ then X else Y) R E s:=fun X Y R S=>by
  rw[W];simp only[fc,if_false];exact S
 refine Z _ _ _ ?_;refine Mo (Mr ?_);refine Mo (wpAny_setEpoch_of k.get k.dat k.fits ?_);refine Mo (M0 (Mr ⟨_,rfl,"set_iterator",_,⟨_,Mz _ rfl,rfl⟩,fq.lookup,P _ ⟨⟨_,Mz _ rfl,rfl,?_⟩⟩⟩));have T:gY w t 0=0:=by
  unfold gY;split<;>rfl
 rw[T];rfl
theorem AU{es:Array Ent}(O:A.handled=none)(X:I≠a):Walks prog w A I [I,a] [I] es.size (fun i v=>∃e,(kc w a ep es)[i]? =ar e/\v=e.2)
  (fun i h=>SetAt prog w h a o es ep t L/\IterAt w h I a t es.size ep i) where
 sub:=fun b Y=>by simp at Y;simp[Y]
 frame:=fun i h h' st P=>⟨st.1.at fun Z e=>P a (by simp) Z e,st.2.at fun Z e=>P I (by simp) Z e⟩
 item:=fun i s Q E hi st W=>by
  have R:i<(kc w a ep es).size:=by rw[ll];exact hi
  have he:=MA R;exact next_item st.1 st.2 X he fun h' U T=>W _ h' s.toks ⟨_,he,rfl⟩ ⟨st.1.at fun Z e=>T.extBut a Z (kr X) e,U⟩ fun b Z Y e=>T.extBut b Z (fun z=>Y (by simp[z])) e
 done:=fun s Q E st W=>next_end O st.1 st.2 fun h' S=>W h' s.toks fun b Z Y e=>S b Z (fun z=>Y (by simp[z])) e
 self:=fun i s Q E st W=>by
  refine wpAny_pyIter_slot st.2.typeIs ng (Ng ng st.2.typeIs se ?_ (uF _));show er _ _ (ret (.ref I)) _ _ s;exact Mr ⟨_,rfl,"set_iterator",_,st.2.typeIs,fq.lookup,W⟩
theorem v8{Q:List a_->c_->Prop}(f:A.handled=none)(k:SetAt prog w s.heap a o es ep t L)(h:es.size<=18)
  (m:∀(h':gd) (tk:Nat) (R:List KA),R.Perm L->(∀b o,s.heap.get? b=ar o->h'.get? b=ar o)->Q (R.map fun p=>ey p.2) {s with heap:=h',toks:=tk}):
  er (f_ prog w) A (SQ (.ref a)) Q E s:=by
 have Y:a<s.heap.objs.size:=Mx k.get;unfold SQ;refine Mo (wpAny_runValue (OB F.entry_proto_collect ?_));rw[N9 F.plain_proto_collect _];show er _ A.in1 (SN []>>=fun l=>RO (.builtin "list.__iadd__" ⟨[l,.ref a],[]⟩)) _ _ s;refine Mo (M0 ?_);refine Mr ⟨Qo F.plain_list_iadd _,OB F.entry_list_iadd ?_⟩;rw[N9 F.plain_list_iadd _];have k1:SetAt prog w (s.heap.push {cls:=.type "list",data:=.seq ([]:List a_).toArray}) a o es ep t L:=k.at fun Z e=>Mp _ e;have H:(s.heap.push {cls:=.type "list",data:=.seq ([]:List a_).toArray}).get? s.heap.objs.size=ar {cls:=.type "list",data:=.seq ([]:List a_).toArray}:=Mz _ rfl;have j:Rb {s with heap:=s.heap.push {cls:=.type "list",data:=.seq ([]:List a_).toArray}} (.ref a) "set":=⟨o,k1.get,k1.ex.1⟩;have S:Builtin.List.listSameRef (.ref s.heap.objs.size) (.ref a)=false:=by simp[Builtin.List.listSameRef,Nat.ne_of_gt Y]
 show er _ A.in1 (Builtin.List.listExtendWith (.ref s.heap.objs.size) (.ref a) (.ref s.heap.objs.size)) _ _ _;unfold Builtin.List.listExtendWith;refine Mo (Ow j ?_);rw[if_neg (by rw[S];decide)]
 refine Mo (CG (s:={s with heap:=s.heap.push {cls:=.type "list",data:=.seq ([]:List a_).toArray}}) k1 fun K hit=>?_);refine Mo (Nd ?_);have U:Rb {s with heap:=(s.heap.push {cls:=.type "list",data:=.seq ([]:List a_).toArray}).push K} (.ref a) "set":=⟨o,Mp _ k1.get,k1.ex.1⟩;unfold Builtin.List.listLengthHint;refine Mo (wpAny_specialOf U F.slot_set_len.lookup ?_);generalize gW:("set.__len__":String)=id0
 wp_delta
 rw[show splitId id0=ar ("set","__len__")from by subst gW;decide+kernel]
 subst gW;refine Mo (Om (b:=b_) U sub_set_self ?_);rw[if_neg (by decide)]
 rw[if_pos (by decide+kernel)]
 refine Mo (Ow U ?_);refine Mr ?_;rw[if_pos (by decide+kernel)]
 refine Mo (Pz ?_);generalize hg:(s.heap.push {cls:=.type "list",data:=.seq ([]:List a_).toArray}).objs.size=I at hit;have C:I=s.heap.objs.size+1:=by rw[<-hg];exact NB _ _
 have x:I≠a:=by rw[C];exact NZ (Nz Y)
 have O:I≠s.heap.objs.size:=by rw[C];exact QB _
 have u:s.heap.objs.size∉[I,a]:=by
  simp only[f',fb,or_false,not_or];exact⟨kr O,NZ Y⟩
 have P:((s.heap.push {cls:=.type "list",data:=.seq ([]:List a_).toArray}).push K).get? s.heap.objs.size=ar {cls:=.type "list",data:=.seq ([]:List a_).toArray}:=Mp _ H;refine Mo ?_;show er _ A.in1 (updateSeq s.heap.objs.size (·.push .none)>>=fun _=>updateSeq s.heap.objs.size (·.pop)) _ _ _;refine Mo (wpAny_updateSeq P rfl ?_);have N:=Np (m1 (·.push hO)) P rfl;refine wpAny_updateSeq N rfl ?_;have G:=Np (m1 (·.pop)) N rfl;have T:∀b Z,b≠s.heap.objs.size->((s.heap.push {cls:=.type "list",data:=.seq ([]:List a_).toArray}).push K).get? b=ar Z->
   ((((s.heap.push {cls:=.type "list",data:=.seq ([]:List a_).toArray}).push K).update s.heap.objs.size (m1 (·.push hO))).update s.heap.objs.size (m1 (·.pop))).get? b=ar Z:=
  fun b Z v e=>(Na _ _ (kr v)).trans ((Na _ _ (kr v)).trans e)
 have k2:=(k1.at (h':=(s.heap.push {cls:=.type "list",data:=.seq ([]:List a_).toArray}).push K) fun Z e=>Mp _ e);have z:A.in1.handled=none:=by simp[f]
 have W:=AU (prog:=prog) (w:=w) (A:=A.in1) (I:=I) (a:=a) (o:=o) (es:=es) (ep:=ep) (t:=t) (L:=L) z x;refine Mr ⟨Qo F.plain_extend_loop _,?_⟩;refine codeAny_extend_loopS W.toS (by rw[Nq];omega) _ u _ es.size 0 _ _ _ rfl (ML _) ⟨k2.at fun Z e=>T a Z (MD Y) e,hit.at fun Z e=>T I Z O e⟩ G (ItemsOf.nil _) fun s' acc c hm J X=>?_
 show er _ A (load s.heap.objs.size>>=_) _ _ s';refine Mo (wpAny_load J ?_);refine Mr ?_;obtain⟨h',g',d',B,y⟩:=s';have g:g'=s.gens:=hm.gens;have d:d'=s.drawn:=hm.drawn;have n:y=s.os:=hm.os;subst g d n;obtain⟨R,r,q⟩:=CF (sX w a ep es) L k.ents;have he:acc.toList=R.map fun p=>ey p.2:=by
  have e1:acc.toList=(kc w a ep es).toList.map (·.2):=by
   refine Pc fun i=>?_;rw[MV,MO,MV];by_cases hi:i<acc.size
   ·obtain⟨e,e1,e2⟩:=X.2 i _ (MA hi);rw[MA hi,e2,e1];rfl
   ·rw[NJ (by omega),NJ (by rw[ll, <-X.1];omega)];rfl
  rw[e1,q,MZ];rfl
 rw[he];refine m h' B R r fun b Z e=>hm.heap b Z ?_ (T b Z (MD (Mx e)) (Mp _ (Mp _ e)));simp only[f',fb,or_false,not_or];exact⟨MD (Mx e),by rw[C];exact MD (Nz (Mx e))⟩
end
end S4
namespace S4
open PySem PySem.Spec PySem.W PyProof.Rows L2 S3
section
variable {prog:eM}{w:fg}{A:hI}{E:a_->c_->Prop}{s:c_}
theorem ya{vs:List a_}{P:PySem.Fin->c_->Prop}(W:s.heap.get? a=ar (t4 "list" vs.toArray n))(O:vs.length<2)
  (h:∀h' c,h'.get? a=ar (t4 "list" vs.toArray c)->(∀b o,b≠a->s.heap.get? b=ar o->h'.get? b=ar o)->P (.done (.ret .none)) {s with heap:=h'}):
  er (f_ prog w) A (Builtin.«list.sort» ⟨[.ref a],[]⟩) P E s:=by
 have Q:a<s.heap.objs.size:=Mx W;obtain⟨e1,X⟩:∃e1,(s.heap.update a (m1 fun _=>(#[]:Array a_))).get? a=ar (t4 "list" #[] e1):=⟨_,get?_update_seq W fun _=> #[]⟩;have Z:(((s.heap.update a (m1 fun _=>(#[]:Array a_))).push (t4 "tuple" vs.toArray 0)).push (t4 "list" #[] 0)).get? a=ar (t4 "list" #[] e1):=Mp _ (Mp _ X);rw[list_sort_plain];refine Mo (listItems_at W rfl ?_);refine Mo (listUpdate_at W rfl ?_ (by rw[MB,Nq];omega) (ML _))
 refine Mo (seqEpoch_at X rfl ?_);refine Mo (wpAny_newTuple ?_ (by show vs.length<=_;rw[Nq];omega))
 refine Mo (Rc ?_ (ML _));refine Nd ?_;show er (f_ prog w) A _ P E {s with heap:=((s.heap.update a (m1 fun _=>(#[]:Array a_))).push (t4 "tuple" vs.toArray 0)).push (t4 "list" #[] 0)};dsimp only;have Y:vs.toArray.size<2:=by rw[MB];omega
 rw[if_pos Y,if_pos Y];refine Mo (Mr ?_);rw[StateT.run_pure];refine Mo (Mr ?_);dsimp only;refine Mo (seqEpoch_at Z rfl ?_);have R:(arrOf (SortSt.mk' general' (vs.toArray.zip vs.toArray) #[] 7 none)).map (·.2)=vs.toArray:=by
  show(vs.toArray.zip vs.toArray).map (·.2)=vs.toArray;rw[Array.map_snd_zip (Ms _)]
 rw[R];refine Mo (listUpdate_at Z rfl ?_ (ML _) (by rw[MB,Nq];omega))
 obtain⟨U,T⟩:∃U,((((s.heap.update a (m1 fun _=>(#[]:Array a_))).push (t4 "tuple" vs.toArray 0)).push (t4 "list" #[] 0)).update a (m1 fun _=>vs.toArray)).get? a=ar (t4 "list" vs.toArray U):=⟨_,get?_update_seq Z fun _=>vs.toArray⟩;simp only[bne_self_eq_false,fc,if_false];refine Mr (h _ U T fun b o S e=>?_);rw[Oi _ _ _ _ S];refine Mp _ (Mp _ ?_);rw[Oi _ _ _ _ S];exact e
end
section
variable {X:Cx}
structure TRow(H:Hp)(vs:List V)(nss:List (List Int)):Prop where
 len:vs.length=nss.length
 at':∀i,i<vs.length->∃a,vs[i]? =ar (.ref a)/\H a=ar (.tup ((nss.getD i []).map V.int))
 same:∃c,∀i,i<vs.length->(nss.getD i []).length=c+1
def iL(nss:List (List Int))(q:List Nat):Prop:=q.Perm (eb nss.length)/\∀i j,i<=j->j<nss.length->HT.lexLt (nss.getD (q.getD j 0) []) (nss.getD (q.getD i 0) [])=dV
theorem kd{H:Hp}{Q:VK}(I:L2.Inv X pins σ H s)(Pv:List a_->Prop)
  (hc:∀(R:List a_->c_->Prop) (E':a_->c_->Prop),(∀vs Y N,Pv vs->(∀b o,s.heap.get? b=ar o->Y.get? b=ar o)->R vs {s with heap:=Y,toks:=N})->er (f_ X.prog X.w) X.A.in1 (SQ arg) R E' s)
  (G:∀us,Pv us->∃(vs:List V) (Z:List (List Int)),bw vs us/\TRow H vs Z/\vs.length<64/\∀q,iL Z q->∀l,H l=none->Q (.ref l) (upd H l (.lst (q.map fun i=>vs.getD i .non)))):
  er (f_ X.prog X.w) X.A (call (.builtin "sorted") [arg]) (EP X pins σ Q) X.xe s:=by
 refine P5 kind_sorted plain_sorted entry_sorted (args_sorted1 _) ?_;unfold Builtin.«sorted»;refine Mo (m:=checkCount "sorted" 1 1 _) (Mr ?_);refine Mo (hc _ _ fun its Y N hP keep=>?_);obtain⟨vs,Z,rv,T0,d8,q⟩:=G its hP;have a5:=rv.length;have P:L2.Inv X pins σ H {s with heap:=Y,toks:=N}:=I.kept keep;obtain⟨m,F⟩:=P.fr;refine Mo (Rc ?_ (by rw[Nq];omega))
 have O:(Y.push (t4 "list" its.toArray 0)).get? Y.objs.size=ar (t4 "list" its.toArray 0):=Mz _ rfl;have up:∀b o,Y.get? b=ar o->(Y.push (t4 "list" its.toArray 0)).get? b=ar o:=fun b o e=>Mp _ e;have nd:Y.get? Y.objs.size=none:=Nu (Ms _);have hL:X.env.locals<Y.objs.size:=F.ns.lt;have hH:H Y.objs.size=none:=P.hok.fresh (Ms _);have at':∀i,i<its.length->∃a,its[i]? =ar (.ref a)/\its.getD i hO= .ref a/\H a=ar (.tup ((Z.getD i []).map V.int)):=fun i hi=>by
  obtain⟨a,e1,e2⟩:=T0.at' i (by omega)
  obtain⟨u,hu,ru⟩:=rv.get e1;cases (show u=ey a from ru);exact⟨a,hu,by rw[Mw,hu];rfl,e2⟩
 have b2:∀l:List Nat,(∀x∈l,x<its.length)->bw (l.map fun i=>vs.getD i .non) (l.map fun i=>its.getD i hO):=by
  intro l
  induction l with
  |nil=>intro _;exact .nil
  |cons x l ih=>
   intro d;refine .cons ?_ (ih fun y hy=>d y (My _ hy));have E:x<vs.length:=by have:=d x MH;omega
   obtain⟨u,hu,ru⟩:=rv.get (Mt E);show L2.RelV (vs.getD x .non) (its.getD x hO);rw[Mw,Mw,hu,Mt E];exact ru
 show er _ _ _ _ _ {s with heap:=Y.push (t4 "list" its.toArray 0),toks:=N};refine Mo (Nd (Ng slot_list_sort ⟨_,O,rfl⟩ entry_list_sort ?body (args_list_sort _)))
 case body=>
  by_cases K:its.length<2
  ·refine ya (s:={s with heap:=Y.push (t4 "list" its.toArray 0),toks:=N}) O K fun h' c g1 g2=>?_;refine⟨_,rfl,Mr ⟨_,rfl,?_⟩⟩;have I2:L2.Inv X pins σ (upd H Y.objs.size (.lst vs)) {s with heap:=h',toks:=N}:=P.laid (fun b o e=>g2 b o (MD (Mx e)) (up b o e)) (Ms _) ⟨by rw[Nq];omega,its,c,rv,g1⟩
   refine⟨.ref Y.objs.size,_,I2,rfl,?_⟩;have:=q (eb Z.length) ⟨.refl _,fun i j B hj=>?_⟩ _ hH
   ·have e:(eb Z.length).map (fun i=>vs.getD i .non)=vs:=by
     refine Pc fun i=>?_;rw[MO, <-T0.len];by_cases hi:i<vs.length
     ·rw[OS hi,Mt hi];simp[k6,hi]
     ·rw[Nw (by simpa using hi),Nw (by omega)];rfl
    rw[e]at this;exact this
   ·have:i=j:=by have:=T0.len;omega
    subst this;exact lj _
  ·obtain⟨c,a4⟩:=T0.same;refine kat_list_sort (s:={s with heap:=Y.push (t4 "list" its.toArray 0),toks:=N}) (F.kept up) (News.grown (pR (g:=X.base) (h:=Y) (L:=X.env.locals)) up) O (NZ hL) (Nu (ME F.above (N5 hL)))
    (fun p hp=>MD (Mx (pR p hp).1)) (by omega) (by omega) fun e1 h' F' N'=>?_
   have U:∀K:gd,Fr X.base X.env.locals K m->News X.base X.env.locals K (mL X.base Y X.env.locals)->∀b o,b≠X.env.locals->Y.get? b=ar o->K.get? b=ar o:=fun K F2 N2 b o hb e=>by
    cases z:X.base.get? b with
    |some o'=>
     have:=P.bk b o' z;rw[show Y.get? b=ar o' from this]at e;cases e;exact F2.keep b _ z
    |none=>exact(N2 (b,o) (vD hb z e)).1
   have kp:=U h' F' fun z S=>N' z (My _ S);have T:Tups Y its Z c:=⟨by have:=T0.len;omega,fun i hi=>by
    obtain⟨a,_,e1,e2⟩:=at' i hi;obtain⟨_,ws,J,o,ho,a9,n,hd⟩:=(show bB X.prog X.w H Y a (.tup ((Z.getD i []).map V.int))from P.hok a _ e2);refine⟨a,o,ws.toArray,n,e1,ho,a9,hd,by simpa using PB J,?_⟩
    rw[MB, <-J.length,Mq,a4 i (by omega)]⟩
   have T':Tups h' its Z c:=T.keep fun i a o hi ea ho=>by
    obtain⟨a',_,e1,e2⟩:=at' i hi;rw[ea]at e1;cases e1;refine kp a o (fun z=>?_) ho;rw[z,P.free]at e2;cases e2
   obtain⟨fs,k1,k2,k3⟩:=qr (h:=h') (vs:=its) fun v G=>by
    obtain⟨i,hi,ei⟩:=Pq.mp G;obtain⟨a,o,us,n,f1,f2,f3,f4,f5,f6⟩:=T'.get i hi;have ev:v= .ref a:=by
     rw[Mw,Mt hi,ei]at f1;exact f1
    generalize Z.getD i []=ns at f5;cases hus:us.toList with
    |nil=>
     have:us.size=0:=by rw[<-Of,hus];rfl
     omega
    |cons x r'=>
     rw[hus]at f5;cases f5 with
     |cons n' t' _=>exact⟨a,o,us,n,n',t',ev,f2,f3,f4,by rw[<-MV,hus];rfl⟩
   refine kat_kind k1 (by omega) (T:=.type "int") (fun v G=>by obtain⟨i,t,rfl⟩:=k3 v G;exact Looks.of_pure rfl) rfl ?_
   refine B1 (n:=its.length) (R:=In its.length) (b:=fun i j=>HT.lexLt (Z.getD i []) (Z.getD j [])) (fun i j C hi hj hC=>T'.ask hi hj hC) (vI (by omega)) ?_
   obtain⟨s1,s2⟩:=Eu (n:=its.length) (b:=fun i j=>HT.lexLt (Z.getD i []) (Z.getD j [])) (by omega) (fun i _=>lj _) (fun i j k _ _ _=>xT) (fun i j k _ _ _=>uB)
   generalize bE (fun i j=>HT.lexLt (Z.getD i []) (Z.getD j [])) (vr its.length)=pp at s1 s2;have W:pp.toList.Perm (eb its.length):=by simpa using Array.Perm.toList s1
   refine KasFin.intro F' N' (.head fun z S=>MD (Mx (pR z S).1)) fun b6 c' f r=>?_;have a8:=U b6 f fun z S=>r z (My _ S);obtain⟨g1,g2,g3⟩:=r _ MH;have a6:∀x∈pp.toList,x<its.length:=fun x d=>MC.mp (W.mem_iff.mp d);have b5:(pp.toList.map fun i=>vs.getD i .non).length<=sizeLine:=by
    rw[Mq,W.length_eq,MR,Nq];omega
   have I2:=xU P F f a8 nd g1 (b2 pp.toList a6) b5;refine⟨_,rfl,Mr ⟨_,rfl,.ref Y.objs.size,_,I2,rfl,q pp.toList ⟨by rw[<-T0.len,a5];exact W,fun i j B hj=>?_⟩ _ hH⟩⟩
   have:=s2 i j B (by have:=T0.len;omega)
   rw[M7,M7]at this;rw[Mw (l:=pp.toList),Mw (l:=pp.toList),MV,MV];exact this
end
end S4
namespace S3
open PySem PySem.Spec PySem.W PyProof.Rows L2 S4
def tupI(ns:List Int):D:=.tup (ns.map D.int)
def rowsOf:List D->Option (List (List Int))
 |[]=>ar []
 | .tup ds::r=>match intsOf ds,rowsOf r with
  |some ns,ar nss=>ar (ns::nss)
  |_,_=>none
 |_=>none
theorem pK:∀{a b:List Int},HT.lexLt a b=dV->HT.lexLt b a=dV->a=b
 |[],[],_,_=>rfl
 |[],_::_,h,_=>by cases h
 |_::_,[],_,h=>by cases h
 | x::a,y::b,h1,h2=>by
  rw[HT.lexLt_cons]at h1 h2;by_cases e:x=y
  ·subst e;rw[if_pos rfl]at h1 h2;rw[pK h1 h2]
  ·rw[if_neg e]at h1;rw[if_neg (kr e)]at h2;have:=of_decide_eq_false h1;have:=of_decide_eq_false h2;omega
abbrev D9(a b:List Int):Prop:=HT.lexLt b a=dV
def yb(x:List Int):List (List Int)->List (List Int)
 |[]=>[x]
 |y::r=>if HT.lexLt y x=b_ then y::yb x r else x::y::r
def dz:List (List Int)->List (List Int)
 |[]=>[]
 |x::r=>yb x (dz r)
theorem nZ(x:List Int):∀l,(yb x l).Perm (x::l)
 |[]=>.refl _
 |y::r=>by
  unfold yb;split
  ·exact((nZ x r).cons y).trans (.swap _ _ _)
  ·exact .refl _
theorem cm:∀l,(dz l).Perm l
 |[]=>.refl _
 |x::r=>(nZ x _).trans ((cm r).cons x)
theorem AV(Z:D9 a b)(Y:D9 b c):D9 a c:=by
 cases q:HT.lexLt c a with
 |false=>exact q
 |true=>
  rcases uB (b:=b) q with z|z
  ·rw[show HT.lexLt c b=dV from Y]at z;cases z
  ·rw[show HT.lexLt b a=dV from Z]at z;cases z
theorem v9(h:HT.lexLt a b=b_):HT.lexLt b a=false:=by
 cases q:HT.lexLt b a with
 |false=>rfl
 |true=>
  have:=xT h q;rw[lj]at this;cases this
theorem oF(x:List Int):∀{l:List (List Int)},l.Pairwise D9->(yb x l).Pairwise D9
 |[],_=>by simp[yb]
 | y::r,h=>by
  obtain⟨X,W⟩:=Nn.mp h;unfold yb;split
  ·next c=>
   refine Nn.mpr ⟨fun z Z=>?_,oF x W⟩;rcases MK.mp ((nZ x r).mem_iff.mp Z)with rfl|Z
   ·exact v9 c
   ·exact X z Z
  ·next c=>
   have Y:D9 x y:=Qe.mpr c;refine Nn.mpr ⟨fun z Z=>?_,h⟩;rcases MK.mp Z with rfl|Z
   ·exact Y
   ·exact AV Y (X z Z)
theorem dX:∀l,(dz l).Pairwise D9
 |[]=>.nil
 |x::r=>oF x (dX r)
theorem n0{l:List (List Int)}(h:l.Perm l')(Z:l.Pairwise D9)(Y:l'.Pairwise D9):l=l':=
 OW (le:=D9) (fun a b _ _ x y=>pK y x) Z Y h
theorem qD(h:iL nss q):q.map (fun i=>nss.getD i [])=dz nss:=by
 have hlen:q.length=nss.length:=by simpa using h.1.length_eq
 have e:(eb nss.length).map (fun i=>nss.getD i [])=nss:=by
  refine Pc fun i=>?_;rw[MO];by_cases hi:i<nss.length
  ·rw[OS hi,Mt hi];simp[k6,hi]
  ·rw[Nw (by simpa using hi),Nw (by omega)];rfl
 have X:(q.map (fun i=>nss.getD i [])).Perm nss:=by
  have:=h.1.map (fun i=>nss.getD i []);rw[e]at this;exact this
 refine n0 (X.trans (cm nss).symm) ?_ (dX _);rw[P4];intro i j hi Y Z;rw[Mq]at hi Y;rw[List.getElem_map,List.getElem_map];have:=h.2 i j (N5 Z) (by omega)
 rw[Mw (l:=q),Mw (l:=q),Mt hi,Mt Y]at this;exact this
def gD:List (List Int)->List (List Int)
 |[]=>[]
 |x::r=>if x∈gD r then gD r else x::gD r
theorem jE:∀{l:List (List Int)},y∈gD l↔y∈l
 |[]=>.rfl
 | x::r=>by
  unfold gD;split
  ·next h=>
   rw[jE,MK];refine⟨.inr,fun z=>z.elim (fun z=>?_) id⟩;rw[z];exact jE.mp h
  ·rw[MK,MK,jE]
theorem nh:∀l:List (List Int),(gD l).Nodup
 |[]=>.nil
 |x::r=>by
  unfold gD;split
  ·exact nh r
  ·next h=>exact Nj.mpr ⟨h,nh r⟩
def iM(l:List (List Int)):List (List Int):=dz (gD l)
theorem CH(f:Folded kv L):dz (L.map (·.1))=iM (kv.map (·.1)):=by
 unfold iM;have Z:(L.map (·.1)).Perm (gD (kv.map (·.1))):=(OK f.nd (nh _)).mpr fun a=>by rw[f.mem,jE]
 exact n0 ((cm _).trans (Z.trans (cm _).symm)) (dX _) (dX _)
theorem _root_.S4.Folded.perm{Z:List KA}(f:Folded kv L)(h:Z.Perm L):Folded kv Z:=
 ⟨(Oh (h.map (fun p:KA=>p.1))).mpr f.nd,fun k=>by rw[(h.map (fun p:KA=>p.1)).mem_iff];exact f.mem k,fun p Y=>f.sub p (h.mem_iff.mp Y),by rw[h.length_eq];exact f.len⟩
section
variable {K:d_}{ι:List dt}{H:Hp}
theorem qE:∀{ds:List D} {vs:List V} {nss:List (List Int)},RelDs K ι H ds vs->rowsOf ds=ar nss->vs.length=nss.length/\∀i,i<vs.length->∃a,vs[i]? =ar (.ref a)/\H a=ar (.tup ((nss.getD i []).map V.int))
 |[],vs,nss,h,e=>by
  cases e;rw[h.nil_inv];exact⟨rfl,fun i hi=>absurd hi (QE _)⟩
 | .tup ds::r,vs,nss,h,e=>by
  obtain⟨v,ws,rfl,Y,X⟩:=h.cons_inv;unfold rowsOf at e;cases q:intsOf ds with
  |none=>rw[q]at e;cases e
  | some ns=>
   rw[q]at e;cases q2:rowsOf r with
   |none=>rw[q2]at e;cases e
   | some nss'=>
    rw[q2]at e;cases e;obtain⟨U,T⟩:=qE X q2;obtain⟨a,us,rfl,g1,g2⟩:=Y.tup_inv;refine⟨by simp[U],fun i hi=>?_⟩
    cases i with
    |zero=>
     refine⟨a,rfl,?_⟩;rw[gC g2 q]at g1;simpa using g1
    |succ i=>
     obtain⟨Z,e1,e2⟩:=T i (by simpa using hi)
     exact⟨Z,by simpa using e1,by simpa using e2⟩
 | .non::_,_,_,_,e=>by cases e
 | .bl _::_,_,_,_,e=>by cases e
 | .int _::_,_,_,_,e=>by cases e
 | .str _::_,_,_,_,e=>by cases e
 | .lst _::_,_,_,_,e=>by cases e
 | .ro _::_,_,_,_,e=>by cases e
 | .fz _::_,_,_,_,e=>by cases e
 | .emp::_,_,_,_,e=>by cases e
theorem sZ:∀ns:List Int,RelDs K ι H (ns.map D.int) (ns.map V.int)
 |[]=>.nil
 |n::r=>.cons (.int n) (sZ r)
theorem qF{vs:List V}{Z:List (List Int)}(h:∀i,i<vs.length->∃a,vs[i]? =ar (.ref a)/\H a=ar (.tup ((Z.getD i []).map V.int))):
  ∀q:List Nat,(∀i∈q,i<vs.length)->RelDs K ι H ((q.map fun i=>Z.getD i []).map tupI) (q.map fun i=>vs.getD i .non)
 |[],_=>.nil
 |i::q,hq=>by
  obtain⟨a,e1,e2⟩:=h i (hq i MH);refine .cons ?_ (qF h q fun j X=>hq j (My _ X));show RelD K ι H (tupI (Z.getD i [])) (vs.getD i .non);have Y:vs.getD i .non= .ref a:=by rw[Mw,e1];rfl
  rw[Y];exact .tup e2 (sZ _)
end
section
variable {X:Cx}{E:XD}{e:Expr}{m:TM}{pos:Pos}
theorem sf:ef X (.builtin "sorted") (fun xs H Q=>∃(p:dt) (vs:List V) (Z:List (List Int)),xs=[.ref p]/\kY X.K H p vs/\TRow H vs Z/\vs.length<64/\
  ∀q,iL Z q->∀l,H l=none->Q (.ref l) (upd H l (.lst (q.map fun i=>vs.getD i .non)))):=by
 intro pins s σ H xs us Q I r h;obtain⟨p,vs,Z,rfl,N,T,W,q⟩:=h;obtain⟨u,rfl,P⟩:=vals1 r;cases (show u=ey p from P);obtain⟨its,U,O,G⟩:=I.list N;have J:=U.length;refine kd I (fun us=>us=its) (fun R E' L=>?_) fun us S=>⟨vs,Z,by rw[S];exact U,T,W,q⟩
 refine collect_list O.isList (L its _ _ rfl fun b o e=>?_) (by rw[Nq];omega)
 have Y:b<s.heap.objs.size:=Mx e;rw[Oi _ _ _ _ (MD Y)];exact Mp _ e
def oZ(P:eM)(w:fg)(a:dt)(kv:List KA):gd->Prop:=fun h=>∃o es ep t L,SetAt P w h a o es ep t L/\Folded kv L
def mx(vs:List V)(nss:List (List Int)):List KA:=(eb vs.length).map fun i=>(nss.getD i [],match vs.getD i .non with| .ref a=>a|_=>0)
theorem HG{H:Hp}(Y:gG P w H h){ns:List Int}(e:H a=ar (.tup (ns.map V.int))):k_ (nC P w) h ns a:=by
 obtain⟨_,ws,Z,o,W,T,n,hd⟩:=(show bB P w H h a (.tup (ns.map V.int))from Y a _ e);refine⟨o,ws.toArray,n,W,T,hd,?_⟩;have U:=PB Z;have go:∀{ws:List a_} {ns:List Int},n7 ws ns->ItemsAre (nC P w) ns ws:=by
  intro ws ns h
  induction h with
  |nil=>exact .nil
  |cons n t _ ih=>exact .cons (intKind_is _ _ _ _) ih
 simpa using go U
theorem AW(y:X.calm=b_)(g:X.A.units+8<u_):ef X (.type "set") (fun xs H Q=>∃(p:dt) (vs:List V) (Z:List (List Int)),xs=[.ref p]/\(kY X.K H p vs\/lJ X.K H p vs)/\
  (∀i,i<vs.length->∃a,vs[i]? =ar (.ref a)/\H a=ar (.tup ((Z.getD i []).map V.int)))/\vs.length<=18/\∀l,H l=none->Q (.ref l) (upd H l (.ext (oZ X.prog X.w l (mx vs Z))))):=by
 intro pins s σ H xs us Q I r h;obtain⟨p,vs,Z,rfl,W,T,J,q⟩:=h;obtain⟨u,rfl,G⟩:=vals1 r;cases (show u=ey p from G);have src:∃its,bw vs its/\Src s.heap p its.toArray:=by
  rcases W with W|W
  ·obtain⟨its,Y,S,z⟩:=I.list W;exact⟨its,Y,.inl S.isList⟩
  ·obtain⟨its,Y,S,z⟩:=I.tuple W;exact⟨its,Y,.inr S⟩
 obtain⟨its,Y,hs⟩:=src;have U:=Y.length;have n:∀A:hI,A.in1.units<=A.units+1:=fun A=>Ms _;have at':∀i,i<vs.length->∃a,its[i]? =ar (.ref a)/\vs.getD i .non= .ref a/\H a=ar (.tup ((Z.getD i []).map V.int)):=fun i hi=>by
  obtain⟨a,e1,e2⟩:=T i hi;obtain⟨u,R,F⟩:=Y.get e1;cases (show u=ey a from F);exact⟨a,R,by rw[Mw,e1];rfl,e2⟩
 have hf:H s.heap.objs.size=none:=I.hok.fresh (Ms _);refine HF (I.ok.hd y) (by show X.A.units+3<u_;omega) hs (fun i=>(Z.getD i [],match vs.getD i .non with| .ref a=>a|_=>0)) (fun i v P=>?_) (by rw[MB];omega) (fun j x=>?_) fun h' f o es ep t L O N B=>?_
 ·have hi:i<vs.length:=by rw[U];simpa using(MQ.mp P).1
  obtain⟨a,e1,e2,_⟩:=at' i hi;rw[N7,e1]at P;cases P;simp only[e2]
 ·rw[MB]at x;obtain⟨a,e1,e2,C⟩:=at' j (by omega)
  simp only[e2];exact HG I.hok C
 ·rw[MB, <-U]at N;refine⟨.ref s.heap.objs.size,_,I.laid (o:=.ext (oZ X.prog X.w s.heap.objs.size (mx vs Z))) (fun b o e=>B b o (Mx e) e) (Ms _) ⟨⟨o,es,ep,t,L,O,N⟩,⟨o,O.get⟩,fun h1 h2 ⟨o,es,ep,t,L,a1,a2⟩ k=>⟨o,es,ep,t,L,a1.at k,a2⟩⟩,rfl,q _ hf⟩
theorem uG(F:X.calm=b_):ef X (.builtin "sorted") (fun xs H Q=>∃(p:dt) (U:List KA),xs=[.ref p]/\H p=ar (.ext (oZ X.prog X.w p U))/\(∀k∈U,H k.2=ar (.tup (k.1.map V.int))/\k.1.length=2)/\U.length<=18/\
  ∀L q,Folded U L->iL (L.map (·.1)) q->∀l,H l=none->Q (.ref l) (upd H l (.lst (q.map fun i=>(L.map fun k=>V.ref k.2).getD i .non)))):=by
 intro pins s σ H xs us Q I r h;obtain⟨p,U,rfl,C,O,K,q⟩:=h;obtain⟨u,rfl,J⟩:=vals1 r;cases (show u=ey p from J);obtain⟨⟨o,es,ep,t,L,S,P⟩,_,_⟩:=(show bB X.prog X.w H s.heap p (.ext (oZ X.prog X.w p U))from I.hok p _ C);have z:=P.len;have T:∀l:List KA,bw (l.map fun k=>V.ref k.2) (l.map fun k=>ey k.2):=by
  intro l
  induction l with
  |nil=>exact .nil
  |cons k l ih=>exact .cons rfl ih
 refine kd I (fun us=>∃Z:List KA,Z.Perm L/\us=Z.map fun k=>ey k.2) (fun R E' v=>?_) ?_
 ·refine v8 (by show X.A.handled=none;exact I.ok.hd F) S (by rw[S.len];omega) fun h' n Z W G=>v _ _ _ ⟨Z,W,rfl⟩ G
 ·rintro us ⟨Z,W,rfl⟩;have Y:=P.perm W;have N:=Y.len;refine⟨Z.map fun k=>V.ref k.2,Z.map (·.1),T Z,⟨by simp,fun i hi=>?_,1,fun i hi=>?_⟩,by simp;omega,fun y x l B=>q Z y Y x l B⟩
  ·rw[Mq]at hi;refine⟨Z[i].2,by rw[MO,Mt hi];rfl,?_⟩
   have:=(O _ (Y.sub _ (Ny hi))).1;rw[Mw,MO,Mt hi];exact this
  ·rw[Mq]at hi;rw[Mw,MO,Mt hi];exact(O _ (Y.sub _ (Ny hi))).2
def two(nss:List (List Int)):Bool:=nss.all fun ns=>ns.length==2
def wa(nss:List (List Int)):M D:=if nss.length<64/\two nss=b_ then bD ((dz nss).map tupI)else M.fail
def qG(xs:List D):M D:=match intsOf xs with
 |some ns=>if ns.length<64 then bD ((sortI ns).map D.int)else M.fail
 |none=>match rowsOf xs with
  |some nss=>wa nss
  |none=>M.fail
def bZ:List D->M D
 |[.lst k]=>do
  let xs<-getL k
  qG xs
 |[.fz xs]=>qG xs
 |_=>M.fail
theorem EN{H:Hp}{vs:List V}{Z:List (List Int)}(h:vs.length=Z.length/\∀i,i<vs.length->∃a,vs[i]? =ar (.ref a)/\H a=ar (.tup ((Z.getD i []).map V.int)))(W:two Z=b_):TRow H vs Z:=
 ⟨h.1,h.2,1,fun i hi=>by
  have Y:i<Z.length:=by rw[<-h.1];exact hi
  have:=MM.mp W Z[i] (Ny Y);rw[Mw,Mt Y];simpa using this⟩
theorem uH:lL X.K E bZ (fun xs H Q=>(∃(p:dt) (ns:List Int),xs=[.ref p]/\kY X.K H p (ns.map V.int)/\ns.length<64/\∀l,H l=none->Q (.ref l) (upd H l (.lst ((sortI ns).map V.int))))\/
  ∃(p:dt) (vs:List V) (nss:List (List Int)),xs=[.ref p]/\kY X.K H p vs/\TRow H vs nss/\vs.length<64/\∀q,iL nss q->∀l,H l=none->Q (.ref l) (upd H l (.lst (q.map fun i=>vs.getD i .non)))):=by
 intro ι S H ds vs Q rep r c;have fin:∀{es:List D} {us:List V} {p:dt},RelDs X.K ι H es us->Rd H p (.lst us)->cont X.K E (qG es) ι S H (lK X.K Q)->vs=[.ref p]->
   (∃(p:dt) (ns:List Int),vs=[.ref p]/\kY X.K H p (ns.map V.int)/\ns.length<64/\∀l,H l=none->Q (.ref l) (upd H l (.lst ((sortI ns).map V.int))))\/
  ∃(p:dt) (ws:List V) (nss:List (List Int)),vs=[.ref p]/\kY X.K H p ws/\TRow H ws nss/\ws.length<64/\∀q,iL nss q->∀l,H l=none->Q (.ref l) (upd H l (.lst (q.map fun i=>ws.getD i .non))):=by
  intro es us p W T Z U;unfold qG at Z;cases q:intsOf es with
  | some ns=>
   rw[q]at Z;have Y:cont X.K E (if ns.length<64 then bD ((sortI ns).map D.int)else M.fail) ι S H (lK X.K Q):=Z;by_cases h:ns.length<64
   ·rw[if_pos h]at Y;exact .inl ⟨p,ns,U,.inl (by rw[<-gC W q];exact T),h,(bJ Y rep (m6 _)).2⟩
   ·rw[if_neg h]at Y;exact(aj Y).elim
  | none=>
   rw[q]at Z;cases q2:rowsOf es with
   |none=>rw[q2]at Z;exact(aj Z).elim
   | some nss=>
    rw[q2]at Z;have Y:cont X.K E (if nss.length<64/\two nss=b_ then bD ((dz nss).map tupI)else M.fail) ι S H (lK X.K Q):=Z;by_cases h:nss.length<64/\two nss=b_
    ·rw[if_pos h]at Y;obtain⟨g1,g2⟩:=qE W q2;refine .inr ⟨p,us,nss,U,.inl T,EN ⟨g1,g2⟩ h.2,by omega,fun N J l I=>?_⟩
     have L:∀i∈N,i<us.length:=fun i hi=>by rw[g1];exact MC.mp (J.1.mem_iff.mp hi)
     have G:RelDs X.K ι H ((dz nss).map tupI) (N.map fun i=>us.getD i .non):=by
      rw[<-qD J];exact qF g2 N L
     exact(bJ Y rep G).2 l I
    ·rw[if_neg h]at Y;exact(aj Y).elim
 unfold bZ at c;split at c
 ·next k=>
  obtain⟨v,ws,rfl,R,P⟩:=r.cons_inv;cases P.nil_inv;obtain⟨p,rfl,O⟩:=R.lst_inv;obtain⟨es,us,_,T,W,Z⟩:=bH c rep O;exact fin W (.inl T) Z rfl
 ·next es=>
  obtain⟨v,ws,rfl,R,P⟩:=r.cons_inv;cases P.nil_inv;obtain⟨p,o,us,rfl,O,W⟩:=R.fz_inv;exact fin W (.inr ⟨o,O⟩) c rfl
 ·exact(aj c).elim
theorem gE(W:X.mg "sorted"=none)(Y:SE X E e m)(Z:Gl X "sorted":=by rfl)(hs:ee [e] X.env=[(dV,hS e X.env)]:=by rfl):SE X E (.Call (.Name "sorted" p) [e] [] pos) (fun ρ=>do let ds<-(do let x<-m ρ;let xs<-aC [];aC (x::xs));bZ ds):=
 jD (ef.or uA sf) uH Z W (by decide+kernel) (af Y ai hs) (by decide) (by decide) hs rfl
def dO(nss:List (List Int)):M D:=if nss.length<=18/\two nss=b_ then bD ((iM nss).map tupI)else M.fail
def ni:List D->M D
 |[.lst k]=>do
  let xs<-getL k
  match rowsOf xs with
  |some nss=>dO nss
  |none=>M.fail
 |[.tup xs]=>match rowsOf xs with
  |some nss=>dO nss
  |none=>M.fail
 |[.fz xs]=>match rowsOf xs with
  |some nss=>dO nss
  |none=>M.fail
 |_=>M.fail
theorem EO{vs:List V}{Z:List (List Int)}(h:vs.length=Z.length):(mx vs Z).map (·.1)=Z:=by
 unfold mx;rw[MZ];refine Pc fun i=>?_;rw[MO,h];by_cases hi:i<Z.length
 ·rw[OS hi,Mt hi];simp[k6,hi]
 ·rw[Nw (by simpa using hi),Nw (by omega)];rfl
theorem JO{K:d_}{ι:List dt}{H:Hp}{L:List KA}(h:∀k∈L,H k.2=ar (.tup (k.1.map V.int))):∀q:List Nat,(∀i∈q,i<L.length)->RelDs K ι H ((q.map fun i=>(L.map (·.1)).getD i []).map tupI) (q.map fun i=>(L.map fun k=>V.ref k.2).getD i .non):=by
 intro q Z;refine qF (fun i hi=>?_) q fun i hi=>by rw[Mq];exact Z i hi
 rw[Mq]at hi;refine⟨L[i].2,by rw[MO,Mt hi];rfl,?_⟩
 rw[Mw,MO,Mt hi];exact h _ (Ny hi)
theorem uI{p q R:Pos}(hc:X.calm=b_)(hu:X.A.units+8<u_)(hm:X.mg "sorted"=none)(s:X.mg "set"=none)(ha:SE X E e m)(hg:Gl X "sorted":=by rfl)(a0:Gl X "set":=by rfl)(hs:ee [e] X.env=[(dV,hS e X.env)]:=by rfl)
  (B:ee [.Call (.Name "set" q) [e] [] R] X.env=[(dV,hS (.Call (.Name "set" q) [e] [] R) X.env)]:=by rfl):
  SE X E (.Call (.Name "sorted" p) [.Call (.Name "set" q) [e] [] R] [] pos) (fun ρ=>do let ds<-(do let x<-m ρ;let xs<-aC [];aC (x::xs));ni ds):=by
 refine PE.imp (ky (uG hc) hg hm (by decide+kernel) (fN (kZ (AW hc hu) a0 s (by decide+kernel) (af ha ai hs) (by decide) (by decide) hs rfl) ku B) (by decide) (by decide) B rfl) fun σ H Q h=>?_
 obtain⟨ι,S,ρ,rep,re,c⟩:=h;refine⟨ι,S,ρ,rep,re,aD (aq c) fun ds T S1 Y e1 rep1 U vs r=>?_⟩;have fin:∀{xs:List D} {us:List V} {a:dt} {Z:List (List Int)},RelDs X.K T Y xs us->rowsOf xs=ar Z->(kY X.K Y a us\/lJ X.K Y a us)->cont X.K E (dO Z) T S1 Y (lK X.K Q)->vs=[.ref a]->
   ∃ (p:dt) (vs':List V) (Z:List (List Int)),vs=[.ref p]/\(kY X.K Y p vs'\/lJ X.K Y p vs')/\
    (∀i,i<vs'.length->∃a,vs'[i]? =ar (.ref a)/\Y a=ar (.tup ((Z.getD i []).map V.int)))/\vs'.length<=18/\∀l,Y l=none->
     ∃(p:dt) (kv:List KA),[V.ref l]=[.ref p]/\upd Y l (.ext (oZ X.prog X.w l (mx vs' Z))) p=ar (.ext (oZ X.prog X.w p kv))/\(∀k∈kv,upd Y l (.ext (oZ X.prog X.w l (mx vs' Z))) k.2=ar (.tup (k.1.map V.int))/\k.1.length=2)/\kv.length<=18/\
      ∀L q,Folded kv L->iL (L.map (·.1)) q->∀N,upd Y l (.ext (oZ X.prog X.w l (mx vs' Z))) N=none->Q (.ref N) (upd (upd Y l (.ext (oZ X.prog X.w l (mx vs' Z)))) N (.lst (q.map fun i=>(L.map fun k=>V.ref k.2).getD i .non))):=by
  intro xs us a Z P W a3 z f;unfold dO at z;by_cases h:Z.length<=18/\two Z=b_
  ·rw[if_pos h]at z;obtain⟨g1,g2⟩:=qE P W;refine⟨a,us,Z,f,a3,g2,by omega,fun l u=>⟨l,mx us Z,rfl,aX,fun k O=>?_,by unfold mx;simp;omega,fun L qq hF hq N g=>?_⟩⟩
   ·unfold mx at O;obtain⟨i,hi,rfl⟩:=MJ.mp O;rw[MC]at hi;obtain⟨b,d,J⟩:=g2 i hi;have n:us.getD i .non= .ref b:=by rw[Mw,d];rfl
    simp only[n];refine⟨by rw[aK (aR J u)];exact J,?_⟩
    have I:i<Z.length:=by omega
    have:=MM.mp h.2 Z[i] (Ny I);rw[Mw,Mt I];simpa using this
   ·have hE:Ext T Y T (upd Y l (.ext (oZ X.prog X.w l (mx us Z)))):=fO u;have rep2:=gH (o:=.ext (oZ X.prog X.w l (mx us Z))) rep1 u;have j:∀i∈qq,i<L.length:=fun i hi=>by
     have:=MC.mp (hq.1.mem_iff.mp hi);simpa using this
    have O:∀k∈L,upd Y l (.ext (oZ X.prog X.w l (mx us Z))) k.2=ar (.tup (k.1.map V.int)):=fun k O=>by
     have y:=hF.sub k O;unfold mx at y;obtain⟨i,hi,rfl⟩:=MJ.mp y;rw[MC]at hi;obtain⟨b,d,J⟩:=g2 i hi;have n:us.getD i .non= .ref b:=by rw[Mw,d];rfl
     simp only[n];rw[aK (aR J u)];exact J
    have rr:=JO (K:=X.K) (ι:=T) O qq j;rw[qD hq,CH hF,EO g1]at rr;exact(bJ (iH z hE) rep2 rr).2 N g
  ·rw[if_neg h]at z;exact(aj z).elim
 unfold ni at U;split at U
 ·next k=>
  obtain⟨v,ws,rfl,G,F⟩:=r.cons_inv;cases F.nil_inv;obtain⟨a,rfl,C⟩:=G.lst_inv;obtain⟨es,us,_,hv,P,t⟩:=bH U rep1 C;cases W:rowsOf es with
  |none=>rw[W]at t;exact(aj t).elim
  |some Z=>
   rw[W]at t;exact fin P W (.inl (.of hv)) t rfl
 ·next xs=>
  obtain⟨v,ws,rfl,G,F⟩:=r.cons_inv;cases F.nil_inv;obtain⟨a,us,rfl,C,P⟩:=G.tup_inv;cases W:rowsOf xs with
  |none=>rw[W]at U;exact(aj U).elim
  |some Z=>
   rw[W]at U;exact fin P W (.inr (.of C)) U rfl
 ·next xs=>
  obtain⟨v,ws,rfl,G,F⟩:=r.cons_inv;cases F.nil_inv;obtain⟨a,o,us,rfl,C,P⟩:=G.fz_inv;cases W:rowsOf xs with
  |none=>rw[W]at U;exact(aj U).elim
  |some Z=>
   rw[W]at U;exact fin P W (.inl (.inl (.inr ⟨o,C⟩))) U rfl
 ·exact(aj U).elim
end
end S3
namespace S4
open PySem PySem.Spec PyProof.Rows L2 S3
section
variable {prog:eM}{w:fg}{A:hI}{E:a_->c_->Prop}{s:c_}
theorem jQ{Q:a_->c_->Prop}(Z:s.heap.IsTupleIter it t i)(R:s.heap.IsTuple t items)(U:items[i]? =ar x)
  (S:∀h',h'.IsTupleIter it t (i+1)->sA it s.heap h'->Q x {s with heap:=h'}):er (f_ prog w) A (ip (.ref it)) Q E s:=by
 obtain⟨o,Y,T,hd⟩:=id Z;obtain⟨ol,X,_,nl,W⟩:=R;unfold ip;refine Mo (wpAny_callSpecial?_slot (name:=hY "__next__") Z.typeIs N1
  (Ng N1 Z.typeIs PJ ?_ (Py _)))
 show er _ _ (RG (.ref it) 0>>=_) _ _ s;refine Mo (Ni Y hd (x:=.ref t) rfl ?_);show er _ _ (if (ey t==hO)=b_ then _ else _) _ _ s;rw[if_neg (show ¬ ((ey t==hO)=b_)from NT)];show er _ _ (RG (.ref it) 1>>=_) _ _ s;refine Mo (Ni Y hd (x:=.int i 0) rfl ?_);show er _ _ (R8 (.ref t)>>=_) _ _ s;refine Mo (NO X W ?_);simp only[F0,U];refine Mo (Oo Y hd (by simp) (Mr ⟨x,rfl,Mr (S _ ?_ (NM ..))⟩))
 exact⟨_,Np _ Y (OC (NV hd _)),(Qh ..).trans T,by
  rw[NV hd];simp[mv]⟩
theorem lp(U:A.handled=none)(Z:s.heap.IsTupleIter it t i)(R:s.heap.IsTuple t items)(T:items[i]? =none)
  (S:∀h' e,RF it s.heap h'->(∃o,h'.get? e=ar o/\o.cls= .type "StopIteration")->E (.ref e) {s with heap:=h'}):er (f_ prog w) A (ip (.ref it)) Q E s:=by
 obtain⟨o,X,P,hd⟩:=id Z;obtain⟨ol,W,_,nl,Y⟩:=R;unfold ip;refine Mo (wpAny_callSpecial?_slot (name:=hY "__next__") Z.typeIs N1
  (Ng N1 Z.typeIs PJ ?_ (Py _)))
 show er _ _ (RG (.ref it) 0>>=_) _ _ s;refine Mo (Ni X hd (x:=.ref t) rfl ?_);show er _ _ (if (ey t==hO)=b_ then _ else _) _ _ s;rw[if_neg (show ¬ ((ey t==hO)=b_)from NT)];show er _ _ (RG (.ref it) 1>>=_) _ _ s;refine Mo (Ni X hd (x:=.int i 0) rfl ?_);show er _ _ (R8 (.ref t)>>=_) _ _ s;refine Mo (NO W Y ?_);simp only[F0,T];refine Mo (Pz (Mo (Oo X hd (by simp) ?_)))
 show er _ _ (SF (.type "StopIteration") []>>=_) _ _ _;refine Mo ?_;simp only[SF,newTuple];refine Mo (M0 ?_ (by size_fits))
 refine Mo (m:=Fn _ _) (RE (a:=hO) (by first|rfl|(simp only[Fn];rfl)) ?_)
 refine M0 ?_ (by size_fits)
 simp only[raiseNew];refine Mo (wpAny_handled ?_);first|rw[show A.in1.handled=none from U]|rw[U]
 refine Mo (Mr (wpAny_throw ?_));exact S _ _ (((NM ..).extBut.push _).push _) ⟨_,Mz _ rfl,rfl⟩
theorem AX{z TI TO J O m u:dt}{k:Nat}{xs ys:Array a_}{x y a b:a_}{Q:Option a_->c_->Prop}(D:R0 z TI TO J O m u)
  (v:LI s.heap z TI TO .none) (d:q_ s.heap TI (.ref J) (.ref O)) (a3:q_ s.heap TO a b)
  (h1:s.heap.IsTupleIter J m k) (h2:s.heap.IsTupleIter O u k) (j:s.heap.IsTuple m xs) (a6:s.heap.IsTuple u ys) (hx:xs[k]? =ar x) (hy:ys[k]? =ar y)
  (hQ:∀h',LI h' z TI TO (mv s.heap.objs.size)->q_ h' TO x y->h'.IsTupleIter J m (k+1)->h'.IsTupleIter O u (k+1)->q_ h' s.heap.objs.size x y->h'.objs.size=s.heap.objs.size+1->
   (∀c o,c≠z->c≠TO->c≠J->c≠O->s.heap.get? c=ar o->h'.get? c=ar o)->Q (ar (.ref s.heap.objs.size)) {s with heap:=h'}):er (f_ prog w) A (z7 (.ref z)) Q E s:=by
 have hT:s.TypeIs (.ref z) "zip":=⟨_,v,rfl⟩;unfold z7;refine Mo (OH (wpAny_callSpecial?_slot (name:=hY "__next__") hT PK (Ng PK hT F.entry_zip_next ?_ (F.args_zip_next_1 _))));show er _ _ (RG (.ref z) 2>>=_) _ _ _;refine Mo (Ni v rfl (x:=.bool dV) rfl ?_);show er _ _ (RG (.ref z) 3>>=_) _ _ _;refine Mo (Ni v rfl (x:=.ref TI) rfl ?_);refine Mo (NO d rfl ?_);show er _ _ (lx (.ref z)>>=_) _ _ _;refine Mo ?_;unfold lx;refine Mo (Ni v rfl (x:=.none) rfl (Mr ?_));simp only[if_true];refine Mo (Pz ?_);refine Mo (Ni v rfl (x:=.ref TO) rfl ?_);refine Mo (N8 v (by simp) fun g1 G Y=>?_)
 replace G:LI g1 z TI TO .ellipsis:=G;refine Mo ?_;simp only[List.zipIdx_cons,List.zipIdx_nil,N_,List.forIn_nil];refine Mo (Mo (Qq ?_));show er _ _ (ip (.ref J)>>=_) _ _ _;refine Mo (jQ (s:={s with heap:=g1}) (h1.at fun o e=>Y.extBut _ _ D.i1z e) (j.extBut Y.extBut D.l1z) hx fun g2 h W=>Mr ?_);have N:q_ g2 TO a b:=W.extBut _ _ D.TOi1 (Y.extBut _ _ D.TOz a3);refine Mo (NO N rfl ?_);refine Mo (Px N fun g3 S U=>?_);replace S:q_ g3 TO x b:=S;refine Mo (RH (Mr ?_));refine Mo (Mo (Qq ?_));show er _ _ (ip (.ref O)>>=_) _ _ _;refine Mo (jQ (s:={s with heap:=g3}) (((h2.at fun o e=>Y.extBut _ _ D.i2z e).at fun o e=>W.extBut _ _ D.i12.symm e).at fun o e=>U.extBut _ _ D.TOi2.symm e)
  (((a6.extBut Y.extBut D.l2z).extBut W.extBut D.l2i1).extBut U.extBut D.l2TO) hy fun g4 a0 T=>Mr ?_)
 have K:q_ g4 TO x b:=T.extBut _ _ D.TOi2 S;refine Mo (NO K rfl ?_);refine Mo (Px K fun Z X R=>?_);replace X:q_ Z TO x y:=X;refine Mo (RH (Mr (Mr ?_)));refine Mo (NO X rfl ?_);refine Mo (wpAny_newTuple ?_);have n:Z.objs.size=s.heap.objs.size:=by rw[R.1,T.1,U.1,W.1,Y.1]
 have t:LI Z z TI TO .ellipsis:=R.extBut _ _ D.TOz.symm (T.extBut _ _ D.i2z.symm (U.extBut _ _ D.TOz.symm (W.extBut _ _ D.i1z.symm G)));have a5:∀c o,c≠z->c≠TO->c≠J->c≠O->s.heap.get? c=ar o->Z.get? c=ar o:=fun c o C l c3 f e=>
  R.extBut _ _ l (T.extBut _ _ f (U.extBut _ _ l (W.extBut _ _ c3 (Y.extBut _ _ C e))))
 have g:Z.IsTupleIter J m (k+1):=((h.at fun o e=>U.extBut _ _ D.TOi1.symm e).at fun o e=>T.extBut _ _ D.i12 e).at fun o e=>R.extBut _ _ D.TOi1.symm e;have i:Z.IsTupleIter O u (k+1):=a0.at fun o e=>R.extBut _ _ D.TOi2.symm e;have L:z<Z.objs.size:=Mx t;show er _ _ (Builtin.SmallTypes.ownedTupleHandOut (.ref z) (.ref Z.objs.size)>>=_) _ _ _;refine Mo ?_;unfold Builtin.SmallTypes.ownedTupleHandOut;have a7:LI (Z.push {cls:=.type "tuple",data:=.seq #[x,y]}) z TI TO .ellipsis:=Mp _ t;refine Mo (N8 a7 (by simp) fun g7 H B=>?_)
 replace H:LI g7 z TI TO (mv Z.objs.size):=H;refine N8 H (by simp) fun p P I=>?_
 replace P:LI p z TI TO (mv Z.objs.size):=P;have up:∀c o,c≠z->Z.get? c=ar o->p.get? c=ar o:=fun c o C e=>I.extBut _ _ C (B.extBut _ _ C (Mp _ e));have q:q_ p Z.objs.size x y:=I.extBut _ _ (NZ L) (B.extBut _ _ (NZ L) (Mz _ rfl));have r:p.objs.size=Z.objs.size+1:=by rw[I.1,B.1,NB]
 rw[n]at P q r;refine Mr ⟨_,rfl,?_⟩;refine Mr ?_;show Q (ar (.ref Z.objs.size)) _;rw[n];exact hQ p P (up _ _ D.TOz X) (g.at fun o e=>up _ o D.i1z e) (i.at fun o e=>up _ o D.i2z e) q r fun c o C l c3 f e=>up c o C (a5 c o C l c3 f e)
theorem CI{z TI TO K N n u:dt}{k:Nat}{xs ys:Array a_}{a b:a_}{Q:Option a_->c_->Prop}(d:A.handled=none)(D:R0 z TI TO K N n u)
  (L:LI s.heap z TI TO .none) (l:q_ s.heap TI (.ref K) (.ref N)) (t:q_ s.heap TO a b)
  (f:s.heap.IsTupleIter K n k) (h2:s.heap.IsTupleIter N u k) (C:s.heap.IsTuple n xs) (m:s.heap.IsTuple u ys) (J:xs[k]? =none\/ys[k]? =none)
  (q:∀h',(∀c o,c≠z->c≠TO->c≠K->c≠N->s.heap.get? c=ar o->h'.get? c=ar o)->Q none {s with heap:=h'}):er (f_ prog w) A (z7 (.ref z)) Q E s:=by
 have j:s.TypeIs (.ref z) "zip":=⟨_,L,rfl⟩;unfold z7;refine Mo (OH (wpAny_callSpecial?_slot (name:=hY "__next__") j PK (Ng PK j F.entry_zip_next ?_ (F.args_zip_next_1 _))));have stop:∀(g:gd) (e:dt),(∃o,g.get? e=ar o/\o.cls= .type "StopIteration")->(∀c o,c≠z->c≠TO->c≠K->c≠N->s.heap.get? c=ar o->g.get? c=ar o)->∀R:a_->c_->Prop,
   (∀v s',er (f_ prog w) A (do if<-Rf v (.type "StopIteration")then aC none else throw v) Q E s'->R v s')->R (.ref e) {s with heap:=g}:=fun g e ⟨o,ho,hc⟩ hk R hR=>hR _ _ (by
  refine Mo (Om (T:="StopIteration") (b:=b_) ⟨o,ho,hc⟩ Pf ?_);exact Mr (q _ hk))
 show er _ _ (RG (.ref z) 2>>=_) _ _ _;refine Mo (Ni L rfl (x:=.bool dV) rfl ?_);show er _ _ (RG (.ref z) 3>>=_) _ _ _;refine Mo (Ni L rfl (x:=.ref TI) rfl ?_);refine Mo (NO l rfl ?_);show er _ _ (lx (.ref z)>>=_) _ _ _;refine Mo ?_;unfold lx;refine Mo (Ni L rfl (x:=.none) rfl (Mr ?_));simp only[if_true];refine Mo (Pz ?_);refine Mo (Ni L rfl (x:=.ref TO) rfl ?_);refine Mo (N8 L (by simp) fun g1 S Z=>?_)
 replace S:LI g1 z TI TO .ellipsis:=S;refine Mo ?_;simp only[List.zipIdx_cons,List.zipIdx_nil,N_,List.forIn_nil];refine Mo (Mo (Qq ?_));show er _ _ (ip (.ref K)>>=_) _ _ _;cases hx:xs[k]? with
 |none=>
  refine Mo (lp (s:={s with heap:=g1}) d (f.at fun o e=>Z.extBut _ _ D.i1z e) (C.extBut Z.extBut D.l1z) hx fun g2 e Y he=>?_);obtain⟨r,W,U⟩:=he;have B:LI g2 z TI TO .ellipsis:=Y _ _ D.i1z.symm S;have O:e≠z:=fun x=>by subst x;rw[B]at W;cases W;simp at U
  refine N8 B (by simp) fun g3 _ X=>?_
  refine Mo (Om (T:="StopIteration") (b:=b_) ⟨r,X.extBut _ _ O W,U⟩ Pf ?_);exact Mr (q _ fun c o G _ p _ x=>X.extBut _ _ G (Y _ _ p (Z.extBut _ _ G x)))
 | some x=>
  have hy:ys[k]? =none:=by rcases J with h|h;rw[hx]at h;cases h;exact h
  refine Mo (jQ (s:={s with heap:=g1}) (f.at fun o e=>Z.extBut _ _ D.i1z e) (C.extBut Z.extBut D.l1z) hx fun g2 a4 Y=>Mr ?_);have P:q_ g2 TO a b:=Y.extBut _ _ D.TOi1 (Z.extBut _ _ D.TOz t);refine Mo (NO P rfl ?_);refine Mo (Px P fun g3 i X=>?_);refine Mo (RH (Mr ?_));refine Mo (Mo (Qq ?_));show er _ _ (ip (.ref N)>>=_) _ _ _;refine Mo (lp (s:={s with heap:=g3}) d (((h2.at fun o e=>Z.extBut _ _ D.i2z e).at fun o e=>Y.extBut _ _ D.i12.symm e).at fun o e=>X.extBut _ _ D.TOi2.symm e)
   (((m.extBut Z.extBut D.l2z).extBut Y.extBut D.l2i1).extBut X.extBut D.l2TO) hy fun g4 e H he=>?_)
  obtain⟨r,W,U⟩:=he;have I:LI g4 z TI TO .ellipsis:=H _ _ D.i2z.symm (X.extBut _ _ D.TOz.symm (Y.extBut _ _ D.i1z.symm S));have O:e≠z:=fun x=>by subst x;rw[I]at W;cases W;simp at U
  refine N8 I (by simp) fun g5 _ y=>?_
  refine Mo (Om (T:="StopIteration") (b:=b_) ⟨r,y.extBut _ _ O W,U⟩ Pf ?_);exact Mr (q _ fun c o G c2 p c4 x=>y.extBut _ _ G (H _ _ c4 (X.extBut _ _ c2 (Y.extBut _ _ p (Z.extBut _ _ G x)))))
end
def Ea(l:dt):Obj:={cls:=.type "tuple_iterator",data:=.fields #[.ref l,.int 0 0]}
def HH(h:gd)(l1:dt):Heap:=h.push (Ea l1)
def HI(h:gd)(l1 l2:dt):Heap:=(HH h l1).push (Ea l2)
def HJ(h:gd)(l1 l2:dt):Heap:=(HI h l1 l2).push {cls:=.type "tuple",data:=.seq #[.ref h.objs.size,.ref (HH h l1).objs.size]}
def IR(h:gd)(l1 l2:dt):Heap:=(HJ h l1 l2).push {cls:=.type "tuple",data:=.seq #[.none,.none]}
def HK(h:gd)(l1 l2:dt):Heap:=(IR h l1 l2).push {cls:=.type "zip",data:=.fields #[.none,.bool dV,.bool dV,.ref (HI h l1 l2).objs.size,.ref (HJ h l1 l2).objs.size]}
theorem HL(Z Y:dt)(xs ys:Array a_):
  Meets (Builtin.«zip.__new__» ⟨[.type "zip",.ref Z,.ref Y],[]⟩) (fun _ R s=>s.heap.IsTuple Z xs/\s.heap.IsTuple Y ys/\R (.ok (.ret (.ref (IR s.heap Z Y).objs.size))) {s with heap:=HK s.heap Z Y}):=
 .of_wp fun prog w A R s h=>by
  obtain⟨P,g,d,S,os⟩:=s;obtain⟨T,W,h⟩:=h;have Q:=sub_zip;have U:Rr (RI ⟨P,g,d,S,os⟩) Z xs:=T;have X:Rr (RI ⟨P.push {cls:=.type "tuple_iterator",data:=.fields #[.ref Z,.int 0 0]},g,d,S,os⟩) Y ys:=let ⟨o,e,r⟩:=W;⟨o,Mp _ e,r⟩
  wp_walk using NU U,NU X
  exact⟨_,rfl,h⟩
section
variable {prog:eM}{w:fg}{A:hI}{E:a_->c_->Prop}{s:c_}
theorem AY{Q:a_->c_->Prop}(P:s.heap.IsTuple l1 xs)(U:s.heap.IsTuple l2 ys)
  (h:∀h',LI h' (s.heap.objs.size+4) (s.heap.objs.size+2) (s.heap.objs.size+3) .none->q_ h' (s.heap.objs.size+2) (.ref s.heap.objs.size) (.ref (s.heap.objs.size+1))->
   q_ h' (s.heap.objs.size+3) .none .none->h'.IsTupleIter s.heap.objs.size l1 0->h'.IsTupleIter (s.heap.objs.size+1) l2 0->(∀c o,s.heap.get? c=ar o->h'.get? c=ar o)->Q (.ref (s.heap.objs.size+4)) {s with heap:=h'}):
  er (f_ prog w) A (call (.type "zip") [.ref l1,.ref l2]) Q E s:=by
 refine callType_new F.called_zip (by decide) (F.typeCall_zip_2 _ _) (F.newCall_zip_2 _ _) (fun obj=>F.args_object_init_3 obj _ _) F.entry_zip_new (HL l1 l2 xs ys) ⟨P,U,?_⟩
 have X:(HH s.heap l1).objs.size=s.heap.objs.size+1:=NB ..;have W:(HI s.heap l1 l2).objs.size=s.heap.objs.size+2:=(NB ..).trans (by rw[X])
 have T:(HJ s.heap l1 l2).objs.size=s.heap.objs.size+3:=(NB ..).trans (by rw[W])
 have N:(IR s.heap l1 l2).objs.size=s.heap.objs.size+4:=(NB ..).trans (by rw[T])
 have Z:∀{c o},(IR s.heap l1 l2).get? c=ar o->(HK s.heap l1 l2).get? c=ar o:=fun e=>Mp _ e;have Y:∀{c o},(HJ s.heap l1 l2).get? c=ar o->(IR s.heap l1 l2).get? c=ar o:=fun e=>Mp _ e;have S:∀{c o},(HI s.heap l1 l2).get? c=ar o->(HJ s.heap l1 l2).get? c=ar o:=fun e=>Mp _ e;have L:∀{c o},(HH s.heap l1).get? c=ar o->(HI s.heap l1 l2).get? c=ar o:=fun e=>Mp _ e;have K:∀{c o},s.heap.get? c=ar o->(HH s.heap l1).get? c=ar o:=fun e=>Mp _ e;have R:(HK s.heap l1 l2).get? (IR s.heap l1 l2).objs.size=ar {cls:=.type "zip",data:=.fields #[.none,.bool dV,.bool dV,.ref (HI s.heap l1 l2).objs.size,.ref (HJ s.heap l1 l2).objs.size]}:=Mz _ rfl;have O:(HK s.heap l1 l2).get? (HJ s.heap l1 l2).objs.size=ar {cls:=.type "tuple",data:=.seq #[.none,.none]}:=Z (Mz _ rfl);have g3:(HK s.heap l1 l2).get? (HI s.heap l1 l2).objs.size=ar {cls:=.type "tuple",data:=.seq #[.ref s.heap.objs.size,.ref (HH s.heap l1).objs.size]}:=Z (Y (Mz _ rfl));have g2:(HK s.heap l1 l2).get? (HH s.heap l1).objs.size=ar (Ea l2):=Z (Y (S (Mz _ rfl)));have g1:(HK s.heap l1 l2).get? s.heap.objs.size=ar (Ea l1):=Z (Y (S (L (Mz _ rfl))));show _/\_;rw[W,T,N]at R;rw[X,W]at g3;rw[T]at O;rw[X]at g2;rw[N];exact⟨⟨_,R,rfl⟩,h _ R g3 O ⟨_,g1,rfl,rfl⟩ ⟨_,g2,rfl,rfl⟩ fun c o x=>Z (Y (S (L (K x))))⟩
end
def Bx(va vb:List V):It:=⟨fun i _=>i<va.length/\i<vb.length,fun i H x H'=>∃p a b,H p=none/\va[i]? =ar a/\vb[i]? =ar b/\x= .ref p/\H'=upd H p (.tup [a,b]),fun i _=>va.length<=i\/vb.length<=i⟩
section
variable {X:Cx}{pins:List (dt×Obj)}{σ:L2.St}{H:Hp}{s:c_}
theorem uJ{h':gd}{t':Nat}{ch:List dt}(I:L2.Inv X pins σ H s)(W:∀b∈ch,nQ X pins H b)(k:∀b o,b∉ch->s.heap.get? b=ar o->h'.get? b=ar o):L2.Inv X pins σ H {s with heap:=h',toks:=t'}:=by
 have Y:∀b u,H b=ar u->b∉ch:=fun b u e z=>by rw[(W b z).1]at e;cases e
 refine I.step (g':=s.gens) (d':=s.drawn) (ch:=ch) (fun b S=>?_) (fun b o _ _ Z e _=>k b o Z e) (fun b o _ _ Z e _=>⟨o.slots,k b o Z e⟩) (fun _ _ _ _ n=>n)
  (fun b o Z e=>⟨o,k b o Z e⟩) (fun _ _ e=>e) (fun _ _ _ e=>e) (fun b Q e=>⟨#[],by rw[e];simp⟩) (fun m hm=>?_) (fun b u e=>?_) I.bare
 ·obtain⟨f0,f1,f2,T,f4,R⟩:=W b S;exact⟨T,f1,f4,R⟩
 ·obtain⟨o,es,ep,U,r⟩:=hm;exact⟨o,es,ep,k _ o (fun z=>(W _ z).2.1 rfl) U,r⟩
 ·refine(I.hok b u e).stay (fun c v Z q=>k c v ?_ q) (fun _ q=>q) fun _ _ q=>q;rcases Z with z|z
  ·rw[z];exact Y b u e
  ·exact Y c _ z
theorem uK{h':gd}{t':Nat}{ch:List dt}{a:dt}{o:HO}(I:L2.Inv X pins σ H s)(T:∀b∈ch,nQ X pins H b)(k:∀b o,b∉ch->s.heap.get? b=ar o->h'.get? b=ar o)(R:s.heap.objs.size<=a)(S:bB X.prog X.w (upd H a o) h' a o):
  L2.Inv X pins σ (upd H a o) {s with heap:=h',toks:=t'}:=by
 have Y:H a=none:=I.hok.fresh R;have W:∀b u,H b=ar u->b∉ch:=fun b u e z=>by rw[(T b z).1]at e;cases e
 have ne:∀b o,s.heap.get? b=ar o->b≠a:=fun b o e=>MD (MG (Mx e) R);refine I.step (g':=s.gens) (d':=s.drawn) (ch:=ch) (fun b U=>?_) (fun b o _ _ Z e _=>k b o Z e) (fun b o _ _ Z e _=>⟨o.slots,k b o Z e⟩) (fun b o _ e n=>by rw[aK (ne b o e)];exact n)
  (fun b o Z e=>⟨o,k b o Z e⟩) (fun b xs e=>by rw[aK (aR e Y)];exact e) (fun b _ _ e=>by rw[aK (aR e Y)];exact e) (fun b N e=>⟨#[],by rw[aK (aR e Y),e];simp⟩) (fun m hm=>?_) (fun b u e=>?_) I.bare
 ·obtain⟨f0,f1,f2,P,f4,O⟩:=T b U;exact⟨P,f1,f4,O⟩
 ·obtain⟨o,es,ep,Q,r⟩:=hm;exact⟨o,es,ep,k _ o (fun z=>(T _ z).2.1 rfl) Q,r⟩
 ·by_cases U:b=a
  ·subst U;rw[aX]at e;cases e;exact S
  ·rw[aK U]at e;refine(I.hok b u e).stay (fun c v Z q=>k c v ?_ q) (fun c q=>by rw[aK (aR q Y)];exact q) fun c xs q=>by rw[aK (aR q Y)];exact q
   rcases Z with z|z
   ·rw[z];exact W b u e
   ·exact W c _ z
end
theorem CJ{P:eM}{w:fg}{K:d_}{u:List Expr}{x1}{tp:Pos}{z TI TO L Q l1 p:dt}(D:R0 z TI TO L Q l1 p){G C:List V}(l:Hp->Prop)(A:∀H,l H↔(H l1=ar (.tup G)/\H p=ar (.tup C))):
  Turn P w K (.Tuple u x1 tp) ⟨fun i H=>(Bx G C).go i H/\l H,(Bx G C).yld,fun i H=>(Bx G C).stop i H/\l H⟩ [z,TI,TO,L,Q] z
   (fun i h=>LI h z TI TO .none/\q_ h TI (.ref L) (.ref Q)/\(∃a b,q_ h TO a b)/\h.IsTupleIter L l1 i/\h.IsTupleIter Q p i) where
 mem:=by simp
 obj:=fun i h st b Y=>by
  obtain⟨S,Z,⟨a,c,U⟩,⟨o1,e1,c1,d1⟩,⟨o2,e2,c2,d2⟩⟩:=st;simp only[f',fb,or_false]at Y;rcases Y with rfl|rfl|rfl|rfl|rfl
  ·exact⟨_,S,fun v z=>by cases z⟩
  ·exact⟨_,Z,fun v z=>by cases z⟩
  ·exact⟨_,U,fun v z=>by cases z⟩
  ·exact⟨_,e1,fun v z=>by rw[d1]at z;cases z⟩
  ·exact⟨_,e2,fun v z=>by rw[d2]at z;cases z⟩
 keep:=fun i h h' st k=>by
  obtain⟨S,Z,⟨a,c,U⟩,F,J⟩:=st;exact⟨k z (by simp) _ S,k TI (by simp) _ Z,⟨a,c,k TO (by simp) _ U⟩,F.at fun o e=>k L (by simp) o e,J.at fun o e=>k Q (by simp) o e⟩
 item:=by
  intro X hP hw hK hc i pins s σ H E I hf st hg;subst hP hw hK;obtain⟨S,Z,⟨a,c,U⟩,F,J⟩:=st;obtain⟨⟨ga,gb⟩,hH⟩:=hg;obtain⟨hA,hB⟩:=(A H).mp hH;obtain⟨r,O,p1,_⟩:=I.tuple (.of hA);obtain⟨t,N,p2,_⟩:=I.tuple (.of hB);obtain⟨d,c0,n⟩:=O.get (Mt ga);obtain⟨u2,c3,j⟩:=N.get (Mt gb);refine AX D S Z U F J p1 p2 (x:=d) (y:=u2) (by simpa using c0) (by simpa using c3) fun h' a1 a2 a3 a4 a5 a6 q=>?_
  have b2:H s.heap.objs.size=none:=I.hok.fresh (Ms _);have lt:∀{c o},s.heap.get? c=ar o->s.heap.objs.size≠c:=fun e=>NZ (Mx e);refine⟨_,rfl,P6 a1 fun R m T=>?_⟩;have B:q_ R TI (.ref L) (.ref Q):=T.extBut _ _ D.TIz (q _ _ D.TIz D.TITO D.TIi1 D.TIi2 Z);have kk:∀b o,b∉[z,TI,TO,L,Q]->s.heap.get? b=ar o->R.get? b=ar o:=fun b o Y e=>by
   simp only[f',fb,or_false,not_or]at Y;exact T.extBut _ _ Y.1 (q b o Y.1 Y.2.2.1 Y.2.2.2.1 Y.2.2.2.2 e)
  have f:q_ R s.heap.objs.size d u2:=T.extBut _ _ (lt S) a5;have I2:L2.Inv X pins σ (upd H s.heap.objs.size (.tup [G[i],C[i]])) {s with heap:=R,toks:=s.toks}:=uK (o:=.tup [G[i],C[i]]) I hf kk (Ms _) ⟨by show 2<=sizeLine;decide,[d,u2],.cons n (.cons j .nil),_,f,rfl,_,rfl⟩
  refine⟨.ref s.heap.objs.size,_,I2,rfl,
   ⟨_,_,_,b2,Mt ga,Mt gb,rfl,rfl⟩,⟨m,B,⟨_,_,T.extBut _ _ D.TOz a2⟩,a3.at fun o e=>T.extBut _ _ D.i1z e,a4.at fun o e=>T.extBut _ _ D.i2z e⟩,fun b Y=>?_⟩
  obtain⟨ob,ho,_⟩:∃ob,s.heap.get? b=ar ob/\True:=by
   simp only[f',fb,or_false]at Y;rcases Y with rfl|rfl|rfl|rfl|rfl
   ·exact⟨_,S,trivial⟩
   ·exact⟨_,Z,trivial⟩
   ·exact⟨_,U,trivial⟩
   ·obtain⟨o,e,_⟩:=F;exact⟨_,e,trivial⟩
   ·obtain⟨o,e,_⟩:=J;exact⟨_,e,trivial⟩
  rw[aK (MD (Mx ho))];exact(hf b Y).1
 done:=by
  intro X hP hw hK hc i pins s σ H E I hf st hg;subst hP hw hK;obtain⟨S,Z,⟨a,c,U⟩,F,J⟩:=st;obtain⟨gs,hH⟩:=hg;obtain⟨hA,hB⟩:=(A H).mp hH;obtain⟨r,O,p1,_⟩:=I.tuple (.of hA);obtain⟨t,N,p2,_⟩:=I.tuple (.of hB);have e3:=O.length;have d6:=N.length;refine CI (I.ok.hd hc) D S Z U F J p1 p2 (gs.imp (fun g=>by simp;omega) fun g=>by simp;omega) fun h' q=>⟨rfl,uJ (t':=s.toks) I hf fun b o Y e=>?_⟩
  simp only[f',fb,or_false,not_or]at Y;exact q b o Y.1 Y.2.2.1 Y.2.2.2.1 Y.2.2.2.2 e
 self:=fun _ _ _ _ _ st h=>Pl st.1 h
theorem zip_get{xs ys:List D}{i:Nat}{d:D}(h:((xs.zip ys).map fun p=>D.tup [p.1,p.2])[i]? =ar d):∃x y,xs[i]? =ar x/\ys[i]? =ar y/\d= .tup [x,y]:=by
 rw[MO]at h;cases q:(xs.zip ys)[i]? with
 |none=>rw[q]at h;cases h
 |some p=>
  rw[q]at h;cases h;obtain⟨Z,Y⟩:=OO.mp q;exact⟨p.1,p.2,Z,Y,rfl⟩
theorem yc{K:d_}{ι:List dt}{H:Hp}{S:aF}{a b:dt}{X Y:List V}{xs ys:List D}(Z:Rep K ι H S)(G:H a=ar (.tup X))(F:H b=ar (.tup Y))(C:RelDs K ι H xs X)(A:RelDs K ι H ys Y):
  kF K ⟨(xs.zip ys).map fun p=>.tup [p.1,p.2],.none⟩ ⟨fun i H=>(Bx X Y).go i H/\(H a=ar (.tup X)/\H b=ar (.tup Y)),(Bx X Y).yld,fun i H=>(Bx X Y).stop i H/\(H a=ar (.tup X)/\H b=ar (.tup Y))⟩ ι H:=by
 intro U O S2 e rep2 ok i;have P:O a=ar (.tup X):=(e.oth a _ G (Z.notIn G (by intro _ z;cases z)) (by intro _ z;cases z) (by intro _ z;cases z)).1
 have R:O b=ar (.tup Y):=(e.oth b _ F (Z.notIn F (by intro _ z;cases z)) (by intro _ z;cases z) (by intro _ z;cases z)).1
 have T:=C.laterN Z e;have Q:=A.laterN Z e;have u:=T.length;have r:=Q.length;refine⟨fun d hd=>?_,fun hlen=>?_⟩
 ·obtain⟨x,y,E,I,rfl⟩:=zip_get hd;have q:=(Mv.mp E).1;have t:=(Mv.mp I).1;refine⟨⟨⟨by omega,by omega⟩,P,R⟩,?_⟩
  rintro v H3 ⟨p,J,N,hp,g1,g2,rfl,rfl⟩;obtain⟨v1,e1,B⟩:=T.get' E;obtain⟨v2,e2,w⟩:=Q.get' I;obtain rfl:v1=J:=MS (e1.symm.trans g1);obtain rfl:v2=N:=MS (e2.symm.trans g2);have L:Ext U O U (upd O p (.tup [v1,v2])):=fO hp;exact⟨L,gH rep2 hp,.tup aX (.cons (B.later rep2 L) (.cons (w.later rep2 L) .nil))⟩
 ·have s:min xs.length ys.length<=i:=by simpa using hlen
  refine⟨?_,P,R⟩;rcases Nat.le_total xs.length ys.length with z|z
  ·exact .inl (by omega)
  ·exact .inr (by omega)
end S4
namespace S3
open PySem PySem.Spec PyProof.Rows L2 S4
abbrev mV(i:Nat):TM:=fun ρ=>FZ ρ i
abbrev mK(d:D):TM:=fun _=>aC d
abbrev qH(m n:TM):TM:=fun ρ=>do let x<-m ρ;let c<-lG x;if c=b_ then n ρ else aC (.bl dV)
abbrev JP(m:TM):TM:=fun ρ=>do let x<-m ρ;let c<-lG x;aC (.bl (!c))
abbrev Lz(t:aP->M Bool)(m n:TM):TM:=fun ρ=>do let k<-t ρ;if k=b_ then m ρ else n ρ
abbrev By:=aP->M (List D)
abbrev ak:By:=fun _=>aC []
abbrev ae(m:TM)(ms:By):By:=fun ρ=>do let x<-m ρ;let xs<-ms ρ;aC (x::xs)
abbrev eT(ms:By):TM:=fun ρ=>do let ds<-ms ρ;bK ds
abbrev bh(ms:By):TM:=fun ρ=>do let ds<-ms ρ;bD ds
abbrev aw(F:List D->M D)(ms:By):TM:=fun ρ=>do let ds<-ms ρ;F ds
abbrev cN(F:List D->M D)(m:TM):TM:=aw F (ae m ak)
abbrev aW(f:D->D->M D)(m n:TM):TM:=fun ρ=>do let x<-m ρ;let y<-n ρ;f x y
abbrev HM(f g:D->D->M D)(m n l:TM):TM:=fun ρ=>do let x<-m ρ;let y<-n ρ;let z<-f x y;let k<-lG z;if k=b_ then do let w<-l ρ;g y w else aC (.bl dV)
abbrev LA:=aP->M (Option Int)
abbrev oN:LA:=fun _=>aC none
abbrev oS(m:TM):LA:=fun ρ=>do let x<-m ρ;let i<-LW x;aC (ar i)
abbrev mH(m:TM)(lo hi:LA):TM:=fun ρ=>do let x<-m ρ;let i<-lo ρ;let j<-hi ρ;qk x i j
abbrev CK(m:TM):TM:=fun ρ=>do let x<-m ρ;Hv x
abbrev fH(m:TM)(T:String):TM:=fun ρ=>do let x<-m ρ;AE (fun t=>jo t T) x
abbrev F8(m:TM)(T U:String):TM:=fun ρ=>do let x<-m ρ;AE (fun t=>jo t T||jo t U) x
abbrev vC(f:D->List D->M D)(m n:TM):TM:=fun ρ=>do let x<-m ρ;Ht x;let ds<-(do let y<-n ρ;let ys<-aC [];aC (y::ys));f x ds
abbrev bC(mi:aP->M Iter)(g:nO)(t:aP->M Bool)(m:TM)(js:List (Option Nat)):TM:=fun ρ=>do let it<-mi ρ;let ys<-ik it g t m (mj js ρ);bD ys
abbrev jF:=aP->M Bool
abbrev bV(m:TM):jF:=fun ρ=>do let x<-m ρ;lG x
abbrev c9(f:D->D->M D)(m n:TM):jF:=fun ρ=>do let z<-(do let x<-m ρ;let y<-n ρ;f x y);lG z
abbrev yd(f g:D->D->M D)(m n l:TM):jF:=fun ρ=>do let v<-(do let x<-m ρ;let y<-n ρ;let z<-f x y;let k<-lG z;if k=b_ then do let w<-l ρ;g y w else aC (.bl dV));lG v
abbrev dM(t:jF):jF:=fun ρ=>do let c<-t ρ;aC (!c)
abbrev ye(t u:jF):jF:=fun ρ=>do let c<-t ρ;if c=b_ then u ρ else aC dV
abbrev tj(t u:jF):jF:=fun ρ=>do let c<-t ρ;if c=b_ then aC b_ else u ρ
abbrev lN:jF:=fun _=>aC b_
abbrev ki(m:TM):aP->M Iter:=fun ρ=>do let ds<-ae m ak ρ;mw ds
abbrev F9(m n:TM):aP->M Iter:=fun ρ=>do let ds<-ae m (ae n ak) ρ;lh ds
abbrev ft(m:TM):aP->M Iter:=fun ρ=>do let x<-m ρ;JK x
abbrev gN(i:Nat):nO:=fun d ρ=>aC (ρ.set i (ar d))
abbrev KC(m n:TM):nO:=fun d ρ=>do let x<-m ρ;let y<-n ρ;kE x y d;aC ρ
abbrev cG:cV:=fun ρ=>aC (.nx ρ)
abbrev aI(m n:cV):cV:=fun ρ=>do let o<-m ρ;AB o n
abbrev nj(me:TM):cV:=fun ρ=>do let _<-me ρ;aC (.nx ρ)
abbrev bz(me:TM):cV:=fun ρ=>do let d<-me ρ;aC (.ret d)
abbrev gZ(t:jF)(m n:cV):cV:=fun ρ=>do let c<-t ρ;if c=b_ then m ρ else n ρ
abbrev bA(i:Nat)(me:TM):cV:=fun ρ=>do let d<-me ρ;aC (.nx (ρ.set i (ar d)))
abbrev qJ(me:TM)(g:nO):cV:=fun ρ=>do let d<-me ρ;let ρ'<-g d ρ;aC (.nx ρ')
abbrev wb(i j:Nat)(ms:By):cV:=fun ρ=>do let ds<-ms ρ;match ds with|[d1,d2]=>aC (.nx ((ρ.set i (ar d1)).set j (ar d2)))|_=>M.fail
abbrev i7(mi:aP->M Iter)(g:nO)(b:cV):cV:=fun ρ=>do let it<-mi ρ;eL it g b it.items ρ
abbrev HN(k:Nat)(t:jF)(b:cV):cV:=fun ρ=>kG t b k ρ
structure DefIs(P:eM)(w:fg)(K:d_)(mg:Str->Option a_)(base:gd)(k:Nat)(x:Str)(ps:List Str)(F:List D->M D):Prop where
 ex:∃f fd,FnOk P w K mg base Me k f fd ps (Mg K F)/\mg x=ar (.ref f)/\z5 K (.ref f)=b_/\Binds K fd ps []
section
variable {X:Cx}{E:XD}{e:Expr}{es:List Expr}{pos:Pos}{ms:By}
theorem ay{c j p}:ee (.Constant c j p::es) env=(dV,hS (.Constant c j p) env)::ee es env:=rfl
theorem bo{l k p}:ee (.Tuple l k p::es) env=(dV,hS (.Tuple l k p) env)::ee es env:=rfl
theorem uL{l p}:ee (.List l p::es) env=(dV,hS (.List l p) env)::ee es env:=rfl
theorem ag{x p}:ee (.Name x p::es) env=(dV,hS (.Name x p) env)::ee es env:=rfl
theorem ba{f l k p}:ee (.Call f l k p::es) env=(dV,hS (.Call f l k p) env)::ee es env:=rfl
theorem cJ{a o b p}:ee (.BinOp a o b p::es) env=(dV,hS (.BinOp a o b p) env)::ee es env:=rfl
theorem bf{a b p}:ee (.Subscript a b p::es) env=(dV,hS (.Subscript a b p) env)::ee es env:=rfl
theorem zb{a b p}:ee (.Dict a b p::es) env=(dV,hS (.Dict a b p) env)::ee es env:=rfl
theorem qK{a b p}:ee (.UnaryOp a b p::es) env=(dV,hS (.UnaryOp a b p) env)::ee es env:=rfl
theorem yf{j p}:SE X E (.UnaryOp .USub (.Constant (.int i) j p) pos) (mK (.int (-i))):=by
 refine PE.imp (FV BI xo) fun σ H Q h=>?_;obtain⟨ι,S,ρ,rep,re,c⟩:=h;exact⟨i,rfl,ao c .refl rep _ (.int _)⟩
theorem qL(Y:Gl X x)(W:∃t,X.mg x=ar (.int i t))(Z:(x==("__debug__":Str))=false:=by decide):SE X E (.Name x pos) (mK (.int i)):=
 let ⟨_,h⟩:=W
 EB Y h Z
def JQ(fs:Scope)(N:List Str)(scope:Scope)(Nc:List Str)(js:List (Option Nat)):Bool:=
 (scope.kind== .function) && scope.names.all (fun y=>y.2 != .cell||scope.names.lookup y.1==ar .cell) && scope.names.all (fun y=>y.2 != .local||scope.names.lookup y.1==ar .local) &&
  scope.names.all (fun y=>y.2 != .free||(fs.names.lookup y.1==ar .cell||fs.names.lookup y.1==ar .free)) && (js.length==Nc.length) &&
  (Nc.zip js).all (fun p=>match p.2 with|none=>b_|some j=>N[j]? ==ar p.1 && scope.names.lookup p.1==ar .free)
theorem kj(fs:Scope)(N:List Str)(S:∀x,X.env.kindOf x=fs.names.lookup x)(W:X.N=N)(h:JQ fs N scope Nc js=b_):CompScope X scope Nc js:=by
 unfold JQ at h;simp only[i_,x',beq_iff_eq,bne_iff_ne,A_]at h;obtain⟨⟨⟨⟨⟨U,T⟩,R⟩,Q⟩,Y⟩,O⟩:=h;refine⟨U,fun y Z e=>(T y Z).resolve_left fun z=>z e,fun y Z e=>(R y Z).resolve_left fun z=>z e,fun y Z e=>?_,Y,fun i x j e1 e2=>?_⟩
 ·rw[S];exact(Q y Z).resolve_left fun z=>z e
 ·have P:(Nc.zip js)[i]? =ar (x,ar j):=OO.mpr ⟨e1,e2⟩;have:=O _ (M1 P);simp only[i_,beq_iff_eq]at this;rw[W];exact this
theorem eh(Z:Room k A):A.units+64<cLine:=by have:=Z.un;omega
theorem Mi(Z:Room k A):A.units+8<cLine:=by have:=Z.un;omega
theorem JR(Z:Room k A):A.units<cLine:=by have:=Z.un;omega
end
section
variable {P:eM}{w:fg}{K:d_}{mg:Str->Option a_}{base:gd}
end
def runs{α:Type}(c:M α)(S:aF)(Q:α->aF->Prop):Prop:=∃a S',c S=ar (.ok a,S')/\Q a S'
section
variable {α β:Type}{c:M α}{f:α->M β}{S:aF}{Q Q':α->aF->Prop}{R:β->aF->Prop}
theorem uM(h:c S=ar (.ok a,S1)):runs c S Q↔Q a S1:=by
 constructor
 ·rintro⟨a',S',e,q⟩;rw[h]at e;cases e;exact q
 ·exact fun q=>⟨a,S1,h,q⟩
theorem ER(h:c S=none):runs c S Q↔False:=by
 constructor
 ·rintro⟨a',S',e,q⟩;rw[h]at e;cases e
 ·exact fun q=>q.elim
theorem tm(h:runs c S Q)(k:∀a S',Q a S'->Q' a S'):runs c S Q':=let ⟨a,S',e,q⟩:=h;⟨a,S',e,k a S' q⟩
end
section
variable {S:aF}{Q:D->aF->Prop}
theorem AZ:runs (bD ds) S Q↔ds.length<=lim/\Q (.lst S.length) (S++[ds]):=by
 by_cases h:ds.length<=lim
 ·rw[uM (by unfold bD;rw[if_pos h])];simp[h]
 ·rw[ER (by unfold bD;rw[if_neg h])];simp[h]
theorem dY{f:pb->pb->Bool}(Z:gS S 60 a=ar p)(Y:gS S 60 b=ar q):runs (IP f a b) S Q↔Q (.bl (f p q)) S:=by
 rw[uM (by unfold IP;rw[Z,Y])]
theorem nk(Y:gS S 60 a=ar p)(X:gS S 60 b=ar q)(Z:Lv f p q=ar r):runs (IQ f a b) S Q↔Q (.bl r) S:=by
 rw[uM (by unfold IQ;rw[Y,X];simp only[Z];rfl)]
end
end S3
namespace S7
open PySem PySem.Spec PySem.W PyProof.Rows
section
variable {prog:eM}{w:fg}{A:hI}{E:a_->c_->Prop}{s:c_}{K:SV}{x C:dt}{ox:Obj}{od:Option Obj}{name:Str}
theorem zd:Slot "BaseException" "__getattribute__" "BaseException.__getattribute__":=
 .of (owner:="BaseException") (n:="__getattribute__") (by rw[QH,Pj];kernel_rfl) (by decide+kernel) (by decide+kernel) (by decide+kernel)
  (by first|exact .inl (by decide+kernel)|exact .inr (by decide+kernel)) (by rw[Pe];kernel_rfl)
theorem CL{M:Sj}{Z:a_}{Q:Unit->c_->Prop}(X:K.In s.heap)(I:z4 s.heap x ox C od)(U:R9 K C (.type "BaseException")=ar b_)(h:Q () s):
  er M A (K' "BaseException.__getattribute__" ⟨[.ref x,Z],[]⟩) Q E s:=by
 have S:builtinKind "BaseException.__getattribute__"=ar .slot:=by decide+kernel
 have Y:splitId "BaseException.__getattribute__"=ar ("BaseException","__getattribute__"):=by decide+kernel
 have R:=I.type (M:=M);have L1:=looks_mroIn (M:=M) X U;have O:=F.args_bexc_ga (.ref x) Z;obtain⟨T,g,d,t,os⟩:=s;have P:Looks M T (Rf (.ref x) (.type "BaseException")) true:=R.andThen L1;simp only[K',S,Y];refine Mo (P.at ?_)
 repeat (first|wp_step)
 exact h
theorem CM{Y Z:Bool}{O:Tok}{Q:a_->c_->Prop}(X:K.In s.heap)(I:z4 s.heap x ox C od)(T:yn K (.ref C) "__getattribute__"=ar (ar (.builtin "BaseException.__getattribute__")))
  (S:yn K (.ref C) "__getattr__"=ar none) (N:R9 K C (.type "BaseException")=ar b_)
  (h:er (f_ prog w) A.in1 (Builtin.«object.__getattribute__» ⟨[.ref x,.str name O],[]⟩)
   (fun fin s'=>match fin with| .done (.ret v)=>er (f_ prog w) A (handedOut v) Q E s'|_=>False) (fun _ _=>False) s):
  er (f_ prog w) A (getAttrBy (.ref x) (.str name O) Y Z) Q E s:=by
 obtain⟨H,g,d,t,os⟩:=s;have L:=I.type (M:=f_ prog w);have L1:=Rt (M:=f_ prog w) X T;have J:=Rt (M:=f_ prog w) X S;have R:(Z && R_ (y' "BaseException.__getattribute__"))=false:=by cases Z<;>rfl
 have U:(y' "BaseException.__getattribute__"==y' "object.__getattribute__")=false:=by decide+kernel
 have P:(R_ (ey C) && y' "BaseException.__getattribute__"==y' "object.__getattribute__")=false:=by rw[U,P3]
 unfold getAttrBy;refine Nd (Mo (L.at (Mo (L1.at ?_))));dsimp only;rw[P];simp only[fc,if_false];unfold getAttrByItsOwn hookBefore;rw[if_pos (show R_ (ey C)=b_ from rfl)];refine Mo (J.at ?_);unfold callGetattribute;rw[R];simp only[fc,if_false];refine Mo (OH (Nd ?_));unfold boundAndCalled;rw[zd.bind];refine Mo (Mr ?_);refine O8 (Pw zd.plain F.entry_bexc_ga (CL X I N (Nf h (fun fin s' z=>?_) fun _ _ z=>z.elim)));rcases fin with(_|_|_|_)|_<;>first|exact z|exact z.elim
theorem qM{g a:a_}{Y:Tok}{P:a_->c_->Prop}(X:K.In s.heap)(I:z4 s.heap x ox C od)(Z:Se K C od name=ar (.bind g a))
  (h:er (f_ prog w) A (call g [a,.ref x,.ref C]) P E s):
  er (f_ prog w) A (Builtin.«object.__getattribute__» ⟨[.ref x,.str name Y],[]⟩) (fun fin s'=>match fin with| .done (.ret v)=>P v s'|_=>False) E s:=by
 obtain⟨S,T,d,t,os⟩:=s;have U:=I.type (M:=f_ prog w);have L1:=looks_find (M:=f_ prog w) X I Z;refine Mo (Mr (Mo (Mr (Mo (U.at (Mo (L1.at ?_)))))));show er _ _ (A' [a] (call g [a,.ref x,.ref C])>>=ret) _ _ _;exact Mo (Nd (Nf h (fun v s' z=>Mr z) fun _ _ z=>z))
theorem sg{v:a_}{Y:Tok}{P:a_->c_->Prop}(X:K.In s.heap)(I:z4 s.heap x ox C od)(Z:Se K C od name=ar (.value v))(h:P v s):
  er (f_ prog w) A (Builtin.«object.__getattribute__» ⟨[.ref x,.str name Y],[]⟩) (fun fin s'=>match fin with| .done (.ret v)=>P v s'|_=>False) E s:=by
 obtain⟨S,T,d,t,os⟩:=s;have U:=I.type (M:=f_ prog w);have L1:=looks_find (M:=f_ prog w) X I Z;refine Mo (Mr (Mo (Mr (Mo (U.at (Mo (L1.at ?_)))))));exact Mr h
structure ExcC(K:SV)(C:dt):Prop where
 ga:yn K (.ref C) "__getattribute__"=ar (ar (.builtin "BaseException.__getattribute__"))
 gt:yn K (.ref C) "__getattr__"=ar none
 be:R9 K C (.type "BaseException")=ar b_
 ob:R9 K C (.type "object")=ar b_
 cl:yn K (.ref C) "__class__"=ar (ar (.builtin "object.__class__"))
 gs:specialIn K (.builtin "object.__class__") "__get__"=ar (ar (.builtin "getset_descriptor.__get__"))
 tk:takesIn K (.builtin "object.__class__")=ar b_
 cd:(SR K C).isSome=b_
 mf:yn K (.ref C) "many"=ar none
 ms:yn K (.ref C) "most"=ar none
def CN(K:SV)(C:dt):Bool:=(yn K (.ref C) "__getattribute__"==ar (ar (.builtin "BaseException.__getattribute__"))) && (yn K (.ref C) "__getattr__"==ar none) && (R9 K C (.type "BaseException")==ar b_) &&
 (R9 K C (.type "object")==ar b_) && (yn K (.ref C) "__class__"==ar (ar (.builtin "object.__class__"))) && (specialIn K (.builtin "object.__class__") "__get__"==ar (ar (.builtin "getset_descriptor.__get__"))) &&
 (takesIn K (.builtin "object.__class__")==ar b_) && (SR K C).isSome && (yn K (.ref C) "many"==ar none) && (yn K (.ref C) "most"==ar none)
theorem ExcC.of(h:CN K C=b_):ExcC K C:=by
 unfold CN at h;simp only[i_,beq_iff_eq]at h;obtain⟨⟨⟨⟨⟨⟨⟨⟨⟨R,Q⟩,X⟩,W⟩,T⟩,P⟩,U⟩,S⟩,Y⟩,Z⟩:=h;exact⟨R,Q,X,W,T,P,U,S,Y,Z⟩
theorem A0{Q:Option a_->c_->Prop}(c:ExcC K C)(X:K.In s.heap)(I:z4 s.heap x ox C od)(h:Q (ar (.ref C)) {s with toks:=s.toks+1}):er (f_ prog w) A (getAttr? (.ref x) "__class__") Q E s:=by
 have hf:Se K C od "__class__"=ar (.bind (.builtin "getset_descriptor.__get__") (.builtin "object.__class__")):=by
  obtain⟨cd,Z⟩:=Nk.mp c.cd;unfold Se;rw[Z,On,c.cl,On];simp[c.gs,c.tk]
 unfold getAttr? getAttrBy?;refine Mo (wpAny_mkText (Mo (OH (CM (s:={s with toks:=s.toks+1}) X I c.ga c.gt c.be ?_))));refine qM (s:={s with toks:=s.toks+1}) X I hf ?_;exact O8 (class_get (s:={s with toks:=s.toks+1}) (ox:=ox) (od:=od) X I c.ob (handed_on rfl (Mr h)))
theorem CO(c:ExcC K C):KitX K (.ref x) (.ref C) (fun h=>∃ox od,z4 h x ox C od) where
 ty:=fun _ _ _ ⟨_,_,I⟩=>I.type
 it:=fun _ _ X _=>by
  have Z:=c.cd;unfold SR at Z;split at Z
  ·rename_i c' d' cd' sl' ho
   intro S T E' s' k q;unfold isType loadHead;exact Mo (wpAny_loadPart (k _ _ (X _ _ ho)) (Mr q))
  ·cases Z
 ne:=fun h tp dd its n U X Y=>by
  have Z:=c.cd;refine Qe.mpr fun q=>?_;have e:C=tp:=Value.ref.inj (QU.mp q);subst e;unfold SR at Z;split at Z
  ·rename_i c' d' cd' sl' ho
   have z:=(X _ _ ho).symm.trans Y;cases z
  ·cases Z
 ca:=fun X ⟨_,_,I⟩ k=>A0 c X I k
end
end S7
namespace S7
open PySem PySem.Spec PyProof.Rows L2 S3
def CP(e T C:dt)(od:Option dt)(fl:a_)(h:gd):Prop:=
 ∃oe vs oT ts,h.get? e=ar oe/\oe.cls= .ref C/\oe.dict=od/\oe.data= .fields vs/\vs[1]? =ar (.ref T)/\T≠e/\h.get? T=ar oT/\oT.data= .fields ts/\ts[3]? =ar fl
structure Step(fs:List dt)(e T:dt)(h h':gd):Prop where
 keep:∀b o,h.get? b=ar o->b≠e->b≠T->b∉fs->h'.get? b=ar o
 slot:∀b o,h.get? b=ar o->b≠e->b≠T->∃sl,h'.get? b=ar {o with slots:=sl}
 size:h.objs.size<=h'.objs.size
section
variable {M:Sj}{A:hI}{E:a_->c_->Prop}{s:c_}{base:gd}{env:Env}{outer:List Env}{L e T C:dt}{od:Option dt}{fl:a_}{Q:Unit->c_->Prop}
theorem qN(o:Obj)(f:Array a_->Array a_):(y_ f o).dict=o.dict:=by
 obtain⟨c,d,Z,Y⟩:=o;cases Z<;>rfl
theorem entry(K:A.frames=ar (env::outer))(G:s.heap.FunFrames base (env::outer))(y:env.frame=ar L)
  (F:s.heap.get? e=ar oe) (v:oe.cls= .ref C) (z:oe.dict=od) (J:oe.data= .fields vs) (X:1<vs.size)
  (h:∀h' T',CP e T' C od (mv L) h'->s.heap.objs.size<=T'->Step (ko (env::outer)) e e s.heap h'->Q () {s with heap:=h'}):
  er M A (do let a<-frameOf env;let N<-entryPlaceOf L hadNext;let b<-EntryCells.newEntry head a .none (mv L) .none N;setField (.ref e) 1 b) Q E s:=by
 have U:e∉ko (env::outer):=fun hm=>by obtain⟨_,o,q,H⟩:=G.mem hm;rw[F]at q;cases q;exact H vs J
 refine Mo (wpAny_frameOf_fun K G y fun Y Z=>Mo (wpAny_entryPlaceOf fun N W=>?_));unfold EntryCells.newEntry newFields;refine Mo (M0 (?_ :er _ _ _ _ _ _) (W.sizeOk5 _ _ _ _ _));have P:Y.get? e=ar oe:=(Z.2.1 e U).trans F;have O:=Mp (h:=Y) {cls:=.type "traceback",dict:=none,data:=.fields ([head,.ref L,.none,mv L,.none]++(if N.isEmpty then lu 6 hO else N)).toArray} P;have S:Y.objs.size≠e:=NZ (Mx P);have R:=NV J (·.setIfInBounds 1 (ey Y.objs.size));refine Oo O J X (h _ Y.objs.size ⟨_,_,_,_,Np _ O (OC R),?_,?_,R,by simp[X],S,(Na _ _ (kr S)).trans (Mz Y rfl),rfl,?_⟩ (OV Z.1.symm) ⟨fun b o q I _ w=>?_,fun b o q I _=>?_,?_⟩)
 ·rw[Qh];exact v
 ·rw[qN];exact z
 ·first|(simp;done)|(rcases W with rfl|⟨_,_,_,_,_,_,_,rfl⟩<;>simp)
 ·rw[Na _ _ (kr I)];exact Mp _ ((Z.2.1 b w).trans q)
 ·obtain⟨x,B⟩:=Z.2.2 b o q;exact⟨x,by rw[Na _ _ (kr I)];exact Mp _ B⟩
 ·rw[Oq,NB,Z.1];exact Og _
theorem yg(Z:A.frames=ar (env::outer))(S:s.heap.FunFrames base (env::outer))(X:env.frame=ar L)
  (Y:s.heap.get? e=ar oe) (P:oe.cls= .ref C) (R:oe.dict=od) (W:oe.data= .fields vs) (U:vs[1]? =ar .none)
  (h:∀h' T',CP e T' C od (mv L) h'->s.heap.objs.size<=T'->Step (ko (env::outer)) e e s.heap h'->Q () {s with heap:=h'}):er M A (Q5 (.ref e) env) Q E s:=by
 unfold Q5;simp only[X];refine Mo (Ni Y W U ?_);rw[if_neg (by decide)]
 exact entry Z S X Y P R W (MQ.mp U).1 h
theorem tq(W:A.frames=ar (env::outer))(y:s.heap.FunFrames base (env::outer))(K:env.frame=ar L)(F:CP e T C od .none s.heap)
  (h:∀h' X,CP e X C od (mv L) h'->s.heap.objs.size<=X->Step (ko (env::outer)) e T s.heap h'->Q () {s with heap:=h'}):er M A (Q5 (.ref e) env) Q E s:=by
 obtain⟨u,vs,t,H,he,B,x,hd,J,R,U,Z,I⟩:=F;have N:3<H.size:=(MQ.mp I).1;unfold Q5;simp only[K];refine Mo (Ni he hd J ?_);rw[if_pos (show(ey T !=hO)=b_ from by simp)]
 refine Mo (Ni U Z I ?_);rw[if_neg (show ¬ ((hO==mv L)=b_)from by simp[mv])]
 refine Mo (Oo U Z N ?_);have other:∀b,b≠T->(s.heap.update T (y_ (·.setIfInBounds 3 hO))).get? b=s.heap.get? b:=fun b G=>Na _ _ (kr G);have O:(s.heap.update T (y_ (·.setIfInBounds 3 hO))).FunFrames base (env::outer):=y.of_keeps fun b o q P=>⟨o,(other b fun z=>by rw[z,U]at q;cases q;exact P H Z).trans q,rfl⟩
 refine entry (s:={s with heap:=s.heap.update T (y_ (·.setIfInBounds 3 hO))}) W O K ((other e (kr R)).trans he) B x hd (MQ.mp J).1 fun h' X w l st=>h h' X w ?_ ⟨fun b o q Y S v=>st.keep b o ((other b S).trans q) Y Y v,fun b o q Y S=>st.slot b o ((other b S).trans q) Y Y,?_⟩
 ·have:=l;rwa [Oq]at this
 ·have:=st.size;rwa [Oq]at this
theorem je(F:CP e T C od fl s.heap)(h:∀h',CP e T C od .none h'->Step [] e T s.heap h'->Q () {s with heap:=h'}):er M A (setFlight (.ref e) none) Q E s:=by
 obtain⟨R,vs,I,J,he,K,P,hd,U,X,S,Z,O⟩:=F;have Y:3<J.size:=(MQ.mp O).1;refine wpAny_setFlight_none he hd U S Z Y (h _ ⟨R,vs,_,_,(Na _ _ X).trans he,K,P,hd,U,X,Np _ S (OC (NV Z _)),NV Z _,by simp[Y]⟩
  ⟨fun b o q N W _=>(Na _ _ (kr W)).trans q,fun b o q N W=>⟨o.slots,(Na _ _ (kr W)).trans q⟩,?_⟩)
 rw[Oq];exact Ms _
theorem wc(U:A.frames=ar (env::outer))(S:s.heap.FunFrames base (env::outer))(O:env.frame=ar L)
  (I:s.heap.get? e=ar oe) (z:oe.cls= .ref C) (P:oe.dict=od) (K:oe.data= .fields vs) (J:vs[1]? =ar .none)
  (h:∀h' X,CP e X C od .none h'->s.heap.objs.size<=X->Step (ko (env::outer)) e e s.heap h'->Q () {s with heap:=h'}):er M A (Q0 env (.ref e)) Q E s:=by
 unfold Q0;refine Mo (yg U S O I z P K J fun h' X F l st=>je (s:={s with heap:=h'}) F fun W B Y=>h W X B l ⟨fun b o q Z H G=>?_,fun b o q Z H=>?_,ME st.size Y.size⟩)
 ·exact Y.keep b o (st.keep b o q Z Z G) Z (MD (MG (Mx q) l)) (by simp)
 ·obtain⟨N,R⟩:=st.slot b o q Z Z;exact⟨N,Y.keep b _ R Z (MD (MG (Mx q) l)) (by simp)⟩
theorem yh(U:A.frames=ar (env::outer))(R:s.heap.FunFrames base (env::outer))(N:env.frame=ar L)(F:CP e T C od .none s.heap)
  (h:∀h' X,CP e X C od .none h'->s.heap.objs.size<=X->Step (ko (env::outer)) e T s.heap h'->Q () {s with heap:=h'}):er M A (Q0 env (.ref e)) Q E s:=by
 unfold Q0;refine Mo (tq U R N F fun h' X F l st=>je (s:={s with heap:=h'}) F fun W J Z=>h W X J l ⟨fun b o q Y S K=>?_,fun b o q Y S=>?_,ME st.size Z.size⟩)
 ·exact Z.keep b o (st.keep b o q Y S K) Y (MD (MG (Mx q) l)) (by simp)
 ·obtain⟨O,P⟩:=st.slot b o q Y S;exact⟨O,Z.keep b _ P Y (MD (MG (Mx q) l)) (by simp)⟩
end
def lH(P:eM)(w:fg):Bv:=fun outer H s E x s'=>
 ∃(e T C:dt) (od:Option dt) (H':Hp),x= .ref e/\s'.os=s.os/\y2 s'.gens/\Un (ko outer) [] H H' s.heap s'.heap/\gG P w H' s'.heap/\CP e T C od .none s'.heap/\
  H' e=none/\H' T=none/\s.heap.get? e=none/\s.heap.get? T=none/\E (.ref C) od H'
theorem A1{X:Cx}:pV (lH X.prog X.w) X E0:=fun _ _ _ _ _ _ _ ⟨_,_,_,_,_,_,_,_,_,_,_,_,_,_,_,h⟩=>h.elim
theorem ir{h:gd}(q:h.get? b=ar o)(n:h.get? e=none):b≠e:=fun z=>by rw[z,n]at q;cases q
theorem Un.fly(u:Un fs [] H H' h h1)(R:Step fs e T h1 h2)(W:h.get? e=none)(U:h.get? T=none):Un fs [] H H' h h2 where
 keep:=fun b o q n hf Z=>R.keep b o (u.keep b o q n hf Z) (ir q W) (ir q U) hf
 slot:=fun b o q n hf Z=>by
  obtain⟨P,S⟩:=u.slot b o q n hf Z;obtain⟨Y,X⟩:=R.slot b _ S (ir q W) (ir q U);exact⟨Y,X⟩
 free:=u.free
 there:=fun b o q Z=>by
  obtain⟨Q,S⟩:=u.there b o q Z;obtain⟨Y,X⟩:=R.slot b _ S (ir q W) (ir q U);exact⟨_,X⟩
 tups:=u.tups
 frzs:=u.frzs
 tbls:=u.tbls
theorem gG.fly{H:Hp}(Y:gG P w H h1)(S:Step fs e T h1 h2)(X:H e=none)(W:H T=none)(U:∀b∈fs,H b=none):gG P w H h2:=fun a o q=>by
 have k:∀b u,H b≠none->h1.get? b=ar u->h2.get? b=ar u:=fun b u n q=>S.keep b u q (fun z=>n (by rw[z];exact X)) (fun z=>n (by rw[z];exact W)) fun z=>n (U b z)
 refine(Y a o q).stay (fun b u Z=>k b u ?_) (fun _ z=>z) fun _ _ z=>z;rcases Z with rfl|Z
 ·rw[q];simp
 ·rw[Z];simp
section
theorem we(l:List Env)(x:dt)(env:Env)(h:env.frame=ar x):ko (env::l)=x::ko l:=by
 unfold ko;rw[Nb,h]
theorem bB.there(x:bB P w H h a o):∃Z,h.get? a=ar Z:=by
 cases o with
 |lst xs=>obtain⟨_,_,_,_,e⟩:=x;exact⟨_,e⟩
 |tup xs=>obtain⟨_,_,_,Z,e,_⟩:=x;exact⟨_,e⟩
 |dK kvs=>obtain⟨_,_,_,_,o,_,_,e,_⟩:=x;exact⟨_,e⟩
 |dT kvs=>obtain⟨_,_,_,_,o,_,_,e,_⟩:=x;exact⟨_,e⟩
 |set S n=>obtain⟨o,_,_,_,e,_⟩:=x;exact⟨_,e⟩
 |ins C dx fs=>obtain⟨_,_,_,e,_⟩:=x;exact⟨_,e⟩
 |own y=>exact x
 |xd fs=>obtain⟨_,⟨_,_,_,e,_⟩,_⟩:=x;exact⟨_,e⟩
 |rng lo hi=>obtain⟨_,_,_,e⟩:=x;exact⟨_,e⟩
 |frz Z u=>obtain⟨e,_⟩:=x;exact⟨_,e⟩
 |tbl ps=>exact⟨_,(show h.get? a=ar _ from x)⟩
 |met f y=>exact⟨_,(show h.get? a=ar _ from x)⟩
 |ext φ=>exact x.2.1
theorem gG.gone{H:Hp}(x:gG P w H h)(e:h.get? a=none):H a=none:=by
 cases q:H a with
 |none=>rfl
 |some o=>
  obtain⟨Z,e2⟩:=bB.there (x a o q);rw[e]at e2;cases e2
theorem Un.gone(u:Un fs ex H H' h h')(Z:a∉ex)(e:h'.get? a=none):h.get? a=none:=by
 cases q:h.get? a with
 |none=>rfl
 |some o=>
  obtain⟨Y,e2⟩:=u.there a o q Z;rw[e]at e2;cases e2
end
abbrev Cx.hand(X:Cx)(e:a_):Cx:={X with A:=X.A.mark (ar e),calm:=dV,xe:=fun _ _=>False}
section
variable {X:Cx}{pins:List (dt×Obj)}{σ:L2.St}{H H':Hp}{s:c_}{x:a_}
theorem Inv.hand(I:Inv X pins σ H s)(e:a_):Inv (Cx.hand X e) pins σ H s:=
 ⟨⟨I.ok.mod,I.ok.kind,I.ok.glob,I.ok.blt,I.ok.above,I.ok.inj,I.ok.has,I.ok.cab,(fun z=>Bool.noConfusion z),I.ok.frames,I.ok.stk,I.ok.exf,I.ok.bs,I.ok.bsz,I.ok.noex,I.ok.exfs,I.ok.funs,I.ok.frf⟩,
  I.os,I.bare,I.base,I.loc,I.cell,I.free,I.freeC,I.pin,I.hok,I.len⟩
theorem Inv.unhand(Z:X.Ok)(I:Inv (Cx.hand X x) pins σ H s):Inv X pins σ H s:=⟨Z,I.os,I.bare,I.base,I.loc,I.cell,I.free,I.freeC,I.pin,I.hok,I.len⟩
theorem Inv.local{Z:L2.St}(I:Inv X pins σ H s)(hs:sA X.env.locals s.heap h')(P:h'.Ns X.env.locals m')(U:Z.length=X.N.length)
  (S:∀(i:Nat) (y:Str) (v:V),X.N[i]? =ar y->Z[i]? =ar (ar v)->Bu X.env.scope y->∃u,RelV v u/\Look X.env h' m' y u):Inv X pins Z H {s with heap:=h',toks:=t'}:=by
 have ne:∀b o,X.s₀.heap.get? b=ar o->b≠X.env.locals:=fun b o e=>MD (MG (Mx e) I.ok.above);refine⟨I.ok,I.os,I.bare,⟨fun b o e n T W=>(hs.2 b (ne b o e)).trans (I.base.keep b o e n T W),fun b o e n T W=>?_,I.base.free,fun b o e W=>?_,I.base.tups,I.base.frzs,I.base.tbls⟩,⟨m',P,S⟩,fun y c e=>?_,I.free,I.freeC,fun p O=>?_,fun a o e=>?_,U⟩
 ·obtain⟨Q,e1⟩:=I.base.slot b o e n T W;exact⟨Q,(hs.2 b (ne b o e)).trans e1⟩
 ·obtain⟨R,e1⟩:=I.base.there b o e W;exact⟨R,(hs.2 b (ne b o e)).trans e1⟩
 ·obtain⟨v,z⟩:=I.cell y c e;exact⟨v,z.sameBut hs (I.cne y c e)⟩
 ·obtain⟨e,n,nl,r⟩:=I.pin p O;exact⟨(hs.2 p.1 nl).trans e,n,nl,r⟩
 ·refine(I.hok a o e).stay (fun c L Y q=>(hs.2 c ?_).trans q) (fun _ q=>q) fun _ _ q=>q;rintro rfl;rcases Y with Y|Y
  ·subst Y;rw[I.free]at e;cases e
  ·rw[I.free]at Y;cases Y
theorem ES{M:Sj}{A:hI}{E:a_->c_->Prop}{i:Nat}{y:Str}{pos:Pos}{Q:Unit->c_->Prop}(I:Inv X pins σ H s)(T:X.N.Nodup)(hi:X.N[i]? =ar y)(P:X.env.scope.names.lookup y=ar .local)
  (h:∀s',Inv X pins (σ.set i none) H s'->Q () s'):er M A (do Rh X.env y .none;unbindBehindTheSuite X.env y pos) Q E s:=by
 obtain⟨m,S,W⟩:=id I.loc;refine wpAny_nameGoes_keeps P S (by rw[I.ok.kind];rfl) fun h' v Z hs=>h _ (Inv.local I hs Z (by rw[OZ];exact I.len) fun j z R e1 e2 U=>?_)
 have Y:j≠i:=by
  rintro rfl;by_cases hlt:j<σ.length
  ·rw[M9 hlt]at e2;cases e2
  ·rw[Nw (by rw[OZ];omega)]at e2;cases e2
 rw[Nv (kr Y)]at e2;obtain⟨u,r,q⟩:=W j z R e1 e2 U;refine⟨u,r,?_⟩;rcases q with⟨k,e⟩|⟨k,c,e,q⟩
 ·refine .inl ⟨k,?_⟩;have:z≠y:=fun e=>Y (pS T e1 (e ▸ hi));simp[this,e]
 ·exact .inr ⟨k,c,e,q.sameBut hs (I.cne z c e)⟩
end
theorem Un.track{Z:Hp}(u:Un fs [] H Z h h')(X:Z e=none)(W:h.get? e=none):Un fs [] H (upd Z e o) h h' where
 keep:=u.keep
 slot:=u.slot
 free:=fun b Y q n U=>by rw[aK (ir q W)];exact u.free b Y q n U
 there:=u.there
 tups:=fun b xs q=>by have:=u.tups b xs q;rw[aK (aR this X)];exact this
 frzs:=fun b Y x q=>by have:=u.frzs b Y x q;rw[aK (aR this X)];exact this
 tbls:=fun b T q=>by
  obtain⟨more,this⟩:=u.tbls b T q;exact⟨more,by rw[aK (aR this X)];exact this⟩
theorem gG.track{H:Hp}(X:gG P w H h)(Y:H e=none)(Z:bB P w (upd H e o) h e o):gG P w (upd H e o) h:=fun b u q=>by
 by_cases hb:b=e
 ·subst hb;rw[aX]at q;cases q;exact Z
 ·rw[aK hb]at q;exact(X b u q).stay (fun c v _ q=>q) (fun c q=>by rw[aK (aR q Y)];exact q) fun c xs q=>by rw[aK (aR q Y)];exact q
theorem ET(F:CP e T C od fl h):bB P w H h e (.ext (oX C e od)):=by
 obtain⟨Z,vs,W,U,he,X,Y,hd,_⟩:=F;refine⟨⟨Z,vs,he,X,Y,hd⟩,⟨Z,he⟩,?_⟩;rintro h1 h2 ⟨Z,vs,he,r⟩ k;exact⟨Z,vs,k _ he,r⟩
structure LamOk(P:eM)(w:fg)(K:d_)(mg:Str->Option a_)(base:gd)(k:Nat)(f:dt)(sp:Hp->VK->XK->Prop):Prop where
 fn:∃o fd,base.get? f=ar o/\o.data= .func fd
 run:∀(A:hI) (outer:List Env) (s:c_) (H:Hp) (Q:VK) (E:XK),Room k A->aP P w K mg base A outer s H->sp H Q E->B_ (f_ P w) A (.call (.ref f) ⟨[],[]⟩) (CR (lH P w) outer P w H s Q E) s
section
variable {X:Cx}{k i jn jy:Nat}{f CW:dt}{sp:Hp->VK->XK->Prop}{x c n y:Str}{p cpos epos np p1 p2 p3 hpos tpos:Pos}
theorem A3(B:X.stack=X.env::X.outer)(b1:X.env.frame=ar X.env.locals)(L:LamOk X.prog X.w X.K X.mg X.base k f sp)(hr:Room k X.A)(hN:X.N.Nodup)(hi:X.N[i]? =ar x)(hv:Bu X.env.scope x)
  (R:X.N[jn]? =ar n) (b3:X.N[jy]? =ar y) (S:X.env.scope.names.lookup n=ar .local) (d:X.env.scope.names.lookup y=ar .local) (hg:Gl X c) (hm:X.mg c=ar (.ref CW))
  (hd:(x==("__debug__":Str))=false:=by decide) (b5:(x==("__classdict__":Str))=false:=by decide) (c4:(c==("__debug__":Str))=false:=by decide) (c6:(n==("__debug__":Str))=false:=by decide) (l:(n==("__classdict__":Str))=false:=by decide)
  (c0:la (.Call (.Name x p) [] [] cpos) none epos.line X.env=aC false:=by rfl) (a6:la (.Name n p2) (ar (.Name y p1)) p3.line X.env=aC false:=by rfl):
  PS X (.Try [.Expr (.Call (.Name x p) [] [] cpos) epos] [.ExceptHandler (ar (.Name c np)) (ar n) [.Assign [.Name y p1] (.Name n p2) p3] hpos] [] [] tpos)
   (fun D σ H=>σ[i]? =ar (ar (.ref f))/\sp H (fun _ Y=>D.nx σ Y) (fun cls od Y=>∃C,cls= .ref C/\Ss X.K (.ref C) (.ref CW)=ar b_/\∀e,Y e=none->D.nx (((σ.set jn (ar (.ref e))).set jy (ar (.ref e))).set jn none) (upd Y e (.ext (oX C e od))))):=by
 intro pins s σ H D I ⟨hσ,hsp⟩;refine wpAny_Try_except (Qw (wpAny_Expr_any ?_ I.quiet c0));refine Ot (Nf (tX (X:=X.nox) hi hv hd b5 pins s σ H (fun v Y=>v= .ref f/\Y=H) (I.wish _) ⟨_,hσ,rfl,rfl⟩) (fun u s1 b4=>?_) fun _ _ z=>hJ z);obtain⟨v,Y,P,r1,ev,eH⟩:=b4;subst ev eH;obtain rfl:u=ey f:=r1;have P:=P.unwish;obtain⟨o,fd,ho,a0⟩:=L.fn;refine callWith_meth0 a0 (P.bk f o ho) (O8 (Od (L.run X.A X.stack s1 Y _ _ hr P.env0 hsp) fun r s' U=>?_));cases r with
 | ok fl=>
  cases fl with
  |ret u=>
   obtain⟨v,H2,I2,_,q⟩:=P.after U;exact Ov (Ov ⟨σ,H2,I2,q⟩)
  |next=>exact hJ U
  |brk=>exact hJ U
  |cont=>exact hJ U
 | error ev=>
  obtain⟨e,T,C',od,Z,rfl,os,bare,un,G,F,ne,nT,le,lT,C,eC,hx,hD⟩:=U;cases eC;have I2:L2.Inv X pins σ Z s':=P.call' (ch:=[]) os un G bare (fun b z=>absurd z (by simp))
  have c3:∀b∈ko X.stack,Z b=none:=I2.stkFree;refine tq (base:=X.base) (outer:=X.outer) (by rw[I2.ok.frames,B]) (by rw[<-B];exact I2.stack) b1 F fun h1 T1 F1 l1 E=>?_
  rw[<-B]at E;have a5:Z T1=none:=G.fresh l1;refine je (s:={s' with heap:=h1}) F1 fun J F2 a8=>?_;have g:s1.heap.get? T1=none:=Un.gone un (by simp) (Nu l1)
  have m:gG X.prog X.w Z h1:=gG.fly G E ne nT c3;have Q:gG X.prog X.w Z J:=gG.fly m a8 ne a5 (fun b z=>absurd z (by simp))
  have c1:Un (ko X.stack) [] Y Z s1.heap h1:=Un.fly un E le lT;have O:∀{h a:gd} {e T:dt},Step [] e T h a->Step (ko X.stack) e T h a:=fun st=>⟨fun b o q n1 n2 _=>st.keep b o q n1 n2 (by simp),st.slot,st.size⟩
  have a4:Un (ko X.stack) [] Y Z s1.heap J:=Un.fly c1 (O a8) le g;have I3:L2.Inv X pins σ Z {s' with heap:=J}:=P.call' (s':={s' with heap:=J}) (ch:=[]) os a4 Q bare (fun b z=>absurd z (by simp))
  refine wpAny_handleBy_cons (codeAny_handlers_test (kX (X:=Cx.hand X (.ref e)) (Inv.hand I3 _) hg hm ?_ c4)) (by intro q;cases q)
  have LT:W.Looks (f_ X.prog X.w) J (typeOf (.ref e)) (.ref C'):=by
   obtain⟨oe,vs,oT,ts,he,hc,_⟩:=F2;exact hc ▸ (W.Looks.ld he).andThen .now
  refine(W.exm_one (h:=J) I3.kIn LT hx).at ?_;refine codeAny_handlers_suite_as (je (s:={s' with heap:=J}) F2 fun h3 F3 t=>?_);have j:gG X.prog X.w Z h3:=gG.fly Q t ne a5 (fun b z=>absurd z (by simp))
  have c2:Un (ko X.stack) [] Y Z s1.heap h3:=Un.fly a4 (O t) le g;have I4:L2.Inv X pins σ (upd Z e (.ext (oX C' e od))) {s' with heap:=h3}:=
   P.call' (s':={s' with heap:=h3}) (ch:=[]) os (Un.track c2 ne le) (gG.track j ne (ET F3)) bare (fun b z=>absurd z (by simp))
  refine kq (X:=X) I4 hN R (.inl S) (v:=.ref e) rfl (fun s5 I5=>?_) (.inr S);have hl:jn<σ.length:=by rw[I.len];exact(Mv.mp R).1
  have ps:=tY (BE (X:=Cx.hand X (.ref e)) (pos:=p3) (pos':=p1) hN b3 (.inl d) (tX (X:=Cx.hand X (.ref e)) (pos:=p2) R (.inl S) c6 l) a6 (.inr d));refine Nf (ps pins s5 _ _ {nx:=fun a7 H6=>a7=(σ.set jn (ar (.ref e))).set jy (ar (.ref e))/\H6=upd Z e (.ext (oX C' e od)),rt:=fun _ _=>False} (Inv.hand I5 _) ⟨.ref e,by rw[M9 hl],rfl,rfl⟩) (fun fl s6 U=>?_) fun _ _ z=>hJ z
  cases fl with
  |next=>
   obtain⟨a7,H6,I6,e1,e2⟩:=U;subst e1 e2;exact ES (Inv.unhand I.ok I6) hN R S fun s7 I7=>⟨_,_,I7,hD e ne⟩
  |ret u=>obtain⟨_,_,_,_,_,z⟩:=U;exact hJ z
  |brk=>obtain⟨_,_,_,z⟩:=U;exact hJ z
  |cont=>obtain⟨_,_,_,z⟩:=U;exact hJ z
end
structure BaseL(K:d_)(mg:Str->Option a_)(base:gd):Prop where
 bm:∃bm ob,mg "__builtins__"=ar (.ref bm)/\bm≠wd/\base.get? bm=ar ob/\ob.cls= .type "module"/\ob.dict=ar wd/\ob.data= .plain
 cd:∀x∈cI,∀c P,m2 K x=ar (c,P)->QQ base c P
def uN(K:d_):Prop:=∀x∈cI,∀y∈cI,∀c d P,m2 K x=ar (c,P)->m2 K y=ar (d,P)->x=y
theorem yi(l:List a_)(h:R7 l)(e:K_ pos (l++[mv a,mv b,c])=ar v):K_ pos l=ar v\/v=c:=by
 fun_induction R7 l with
 |case1=>
  have Z:(if a==(pos.line:Int) && b==(pos.col:Int)then ar c else none)=ar v:=e;split at Z
  ·exact .inr (MS Z).symm
  ·cases Z
 |case2 a' t b' u x rest ih=>
  simp only[L0,K_]at e⊢;split at e
  ·next hq=>rw[if_pos hq];exact .inl e
  ·next hq=>rw[if_neg hq];exact ih h e
 |case3 l h1 h2=>exact h.elim
section
variable {X:Cx}{pins:List (dt×Obj)}{σ:L2.St}{H:Hp}{s:c_}{x ql:Str}{c P:dt}{params:Q2}{body:Expr}{scope:Scope}{pos:Pos}{clos:List (Str×dt)}{Q:a_->c_->Prop}{E:a_->c_->Prop}{A:hI}
theorem HP(hx:x∈cI)(ht:m2 X.K x=ar (c,P))(N:X.env.code= .ref c)(hq:X.env.qual++"<lambda>"=ql)(l:ql=x++".<locals>.<lambda>")(B:BaseL X.K X.mg X.base)(TI:uN X.K)(j:RU scope X.env=aC clos)
  (g:defaultsOf params X.env=([],[])) (I:L2.Inv X pins σ H s) (T:TabsOk X.K H)
  (h:∀f Z Y pm H1 s1,L2.Inv X pins σ H1 s1->s.heap.objs.size<=f->s1.heap.get? f=ar (y1 "<lambda>" ql params body scope clos pm Z Y)->H1 f=none->H1 Z=ar (.ext (rZ ql Z))->
   (∀a o,H a=ar o->(∀G,o≠ .tbl G)->H1 a=ar o)->(∀a,H a=none->H1 a≠none->s.heap.objs.size<=a)->TabsOk X.K H1->Q (.ref f) s1):
  er (f_ X.prog X.w) A (hS (.Lambda params body scope pos) X.env) Q E s:=by
 refine W.kla_eval g ?_;rw[hq];obtain⟨G,O,hT,hA⟩:=T x hx c P ht;have C:QQ s.heap c P:=(B.cd x hx c P ht).keeps I.bk;have oP:s.heap.get? P=ar (xy G):=I.hok P _ O;have hg:s.heap.Ns g_ X.mg:=I.mod.glob.keeps I.bk;have U:∀b,H b=none->b≠P:=fun b n z=>by rw[z,O]at n;cases n
 have gP:g_≠P:=by
  obtain⟨o,es,ep,e,_⟩:=I.mod.glob;exact U _ (I.bs _ _ e).2
 have hb:s.heap.BuiltinsAt X.mg P:=by
  obtain⟨bm,ob,b1,b2,b3,b4,b5,b6⟩:=B.bm;refine⟨bm,ob,b1,b2,fun z=>?_,U _ (I.bs _ _ b3).2,I.bk _ _ b3,b4,b5,b6⟩;obtain⟨o,es,ep,e,hd,_⟩:=I.mod.glob;rw[z,e]at b3;cases b3;rw[hd]at b6;cases b6
 cases hn:K_ pos G.toList with
 |some cv=>
  obtain⟨Z,rfl,a3⟩:=hA pos cv hn;rw[<-l]at a3;refine W.kla_makeFunctionHit j I.ok.glob hg N C oP hT hn hb fun Y h' tk hk a4=>?_;have S:∀b o,s.heap.get? b=ar o->(h'.push {cls:=.type "function",data:=.func (Su "<lambda>" ql params body scope clos ((X.mg "__name__").getD .none) (.ref Z) Y)}).get? b=ar o:=fun b o e=>Mp _ (hk b o e);exact h _ Z Y _ H _ (I.kept (t':=tk) S) a4 (Mz _ rfl) (I.hok.fresh a4) a3 (fun a o e _=>e) (fun a n z=>absurd n z) T
 | none=>
  refine W.kla_makeFunction j I.ok.glob hg N C oP hT hn gP hb fun Z Y h' tk hX L F a0 c6=>?_;have nc:H Z=none:=I.hok.fresh L;have cP:P≠Z:=fun z=>by rw[<-z,O]at nc;cases nc
  have S:∀b o,b≠P->s.heap.get? b=ar o->(h'.push (y1 "<lambda>" ql params body scope clos ((X.mg "__name__").getD .none) Z Y)).get? b=ar o:=fun b o n e=>Mp _ (hX b o n e);have m:(h'.push (y1 "<lambda>" ql params body scope clos ((X.mg "__name__").getD .none) Z Y)).get? P=ar (xy (G++ #[mv pos.line,mv pos.col,.ref Z])):=Mp _ c6;have old:∀a o,H a=ar o->a≠P->upd (upd H P (.tbl (G++ #[mv pos.line,mv pos.col,.ref Z]))) Z (.ext (rZ ql Z)) a=ar o:=fun a o e n=>by rw[aK (aR e nc),aK n];exact e
  have i:∀b o,s.heap.get? b=ar o->b≠Z:=fun b o e=>MD (MG (Mx e) L);have un:Un X.fs [] H (upd (upd H P (.tbl (G++ #[mv pos.line,mv pos.col,.ref Z]))) Z (.ext (rZ ql Z))) s.heap (h'.push (y1 "<lambda>" ql params body scope clos ((X.mg "__name__").getD .none) Z Y)):=
   ⟨fun b o e n _ _=>S b o (U b n) e,fun b o e n _ _=>⟨o.slots,S b o (U b n) e⟩,fun b o e n _=>by rw[aK (i b o e),aK (U b n)];exact n,fun b o e _=>(by
    by_cases z:b=P
    ·subst z;exact⟨_,m⟩
    ·exact⟨o,S b o z e⟩),fun b xs e=>old b _ e (fun z=>by rw[z,O]at e;cases e),fun b o u e=>old b _ e (fun z=>by rw[z,O]at e;cases e),fun b qs e=>(by
    by_cases z:b=P
    ·subst z;rw[O]at e;cases e;exact⟨_,by rw[aK cP,aX]⟩
    ·exact⟨#[],by rw[old b _ e z];simp⟩)⟩
  have J:rZ ql Z (h'.push (y1 "<lambda>" ql params body scope clos ((X.mg "__name__").getD .none) Z Y)):=by
   obtain⟨v,oc,vs,t,e1,e2,r⟩:=a0;exact⟨v,oc,vs,t,e1,Mp _ e2,r⟩
  have c4:gG X.prog X.w (upd (upd H P (.tbl (G++ #[mv pos.line,mv pos.col,.ref Z]))) Z (.ext (rZ ql Z))) (h'.push (y1 "<lambda>" ql params body scope clos ((X.mg "__name__").getD .none) Z Y)):=by
   intro a o e;by_cases za:a=Z
   ·subst za;rw[aX]at e;cases e;refine⟨J,?_,?_⟩
    ·obtain⟨v,oc,vs,t,e1,e2,_⟩:=J;cases e1;exact⟨oc,e2⟩
    ·rintro h1 h2 ⟨v,oc,vs,t,e1,e2,r⟩ k;cases e1;exact⟨a,oc,vs,t,rfl,k _ e2,r⟩
   ·rw[aK za]at e;by_cases zP:a=P
    ·subst zP;rw[aX]at e;cases e;exact m
    ·rw[aK zP]at e;refine(I.hok a o e).stay (fun b u R q=>S b u ?_ q) (fun b q=>old b _ q (fun z=>by rw[z,O]at q;cases q)) fun b xs q=>old b _ q (fun z=>by rw[z,O]at q;cases q)
     rintro rfl;rcases R with R|R
     ·exact zP R.symm
     ·rw[O]at R;cases R
  refine h _ Z Y _ _ _ (I.un (t':=tk) un c4) (ME L (N5 F)) (Mz _ rfl) ?_ aX (fun a o e n=>old a o e (fun z=>by rw[z,O]at e;cases e;exact n _ rfl)) (fun a n z=>?_) fun y hy d P' e=>?_
  ·have:H h'.objs.size=none:=I.hok.fresh (ME L (N5 F));rw[aK (kr (MD F)),aK (U _ this)];exact this
  ·by_cases za:a=Z
   ·rw[za];exact L
   ·rw[aK za,aK (U a n)]at z;exact absurd n z
  ·by_cases zP:P'=P
   ·subst zP;obtain rfl:y=x:=TI y hy x hx d c P' e ht;refine⟨_,by rw[aK cP,aX],?_,fun p cv q=>?_⟩
    ·have:=TriplesOk_snoc pos.line pos.col (.ref Z) G.toList hT;simpa using this
    ·have q':K_ p (G.toList++[mv pos.line,mv pos.col,.ref Z])=ar cv:=by simpa using q
     rcases yi _ hT q' with q2|q2
     ·obtain⟨v,e1,e2⟩:=hA p cv q2;exact⟨v,e1,old _ _ e2 (fun z=>by rw[z,O]at e2;cases e2)⟩
     ·exact⟨Z,q2,by rw[<-l];exact aX⟩
   ·obtain⟨qs,g1,g2,g3⟩:=T y hy d P' e;exact⟨qs,old _ _ g1 zP,g2,fun p cv q=>let ⟨v,e1,e2⟩:=g3 p cv q;⟨v,e1,old _ _ e2 (fun z=>by rw[z,O]at e2;cases e2)⟩⟩
end
def LB(K:d_)(ι:List dt)(H:Hp)(x:D)(cls:a_)(od:Option dt):Prop:=
 ∃n ds C,x= .exc n ds/\p_ K g_ n=ar (ar (.ref C))/\cls= .ref C/\
  ((od=none/\ds=[])\/∃dx fs,od=ar dx/\H dx=ar (.xd fs)/\fs.map (·.1)=([("many":Str),("most":Str)]:List Str)/\RelDs K ι H ds (fs.map (·.2)))
def wj(K:d_)(Ek:XK):XD:=fun x ι _ H=>∀cls od,LB K ι H x cls od->Ek cls od H
def CQ(K:d_)(F:List D->M D):Sp:=fun vs H Q Ek=>∃ ι S ds,Rep K ι H S/\RelDs K ι H ds vs/\cont K (wj K Ek) (F ds) ι S H (lK K Q)
theorem CS{K:d_}{E E':XD}{X:Type}{c:M X}{ι:List dt}{S:aF}{H:Hp}{Q:X->List dt->aF->Hp->Prop}(h:cont K E c ι S H Q)(k:∀x ι' Z H',E x ι' Z H'->E' x ι' Z H'):cont K E' c ι S H Q:=by
 obtain⟨r,Z,e,q⟩:=h;refine⟨r,Z,e,fun Y U T rep1=>?_⟩;have:=q Y U T rep1;cases r with
 |ok a=>exact this
 |ex x=>exact k x _ _ _ this
def pj{α:Type}(c:M α):M α:=fun S=>match c S with
 |some (.ok a,S')=>ar (.ok a,S')
 |_=>none
theorem tu{K:d_}{E:XD}{Z:Type}{c:M Z}{ι:List dt}{S:aF}{H:Hp}{Q:Z->List dt->aF->Hp->Prop}(h:cont K E (pj c) ι S H Q):cont K gQ c ι S H Q:=by
 obtain⟨r,X,e,q⟩:=h;unfold pj at e;cases z:c S with
 |none=>rw[z]at e;cases e
 |some p=>
  obtain⟨Y,S1⟩:=p;rw[z]at e;cases Y with
  |ok a=>cases e;exact⟨_,_,z,q⟩
  |ex x=>cases e
section
variable {X:Cx}{E:XD}
theorem uO{m:TM}(h:SE X gQ e m):SE X E e (fun ρ=>pj (m ρ)):=PE.imp h fun _ _ _ ⟨ι,S,ρ,rep,re,c⟩=>⟨ι,S,ρ,rep,re,tu c⟩
theorem wk{Z:List ri}{m:cV}(h:vN X gQ Z m):vN X E Z (fun ρ=>pj (m ρ)):=rS.imp h fun _ _ _ ⟨ι,S,ρ,rep,re,c⟩=>⟨ι,S,ρ,rep,re,tu c⟩
theorem uP{Z:List ri}{m:cV}(h:vN X.nox gQ Z m):vN X gQ Z m:=rS.nox h
end
structure Leaves(X:Cx)(Ek:XK):Prop where
 st:X.stack=X.env::X.outer
 fm:X.env.frame=ar X.env.locals
 ex:X.ex=[]
 xe:∀e s',er (f_ X.prog X.w) X.A (Q0 X.env e) (fun _ s''=>lH X.prog X.w X.outer X.H₀ X.s₀ Ek e s'') (fun e' s''=>lH X.prog X.w X.outer X.H₀ X.s₀ Ek e' s'') s'->X.xe e s'
 ow:QZ (f_ X.prog X.w) X.A X.env X.xe
section
variable {X:Cx}{Ek:XK}
theorem Leaves.pass(L:Leaves X Ek):pV (lH X.prog X.w) X Ek:=by
 rintro pins σ H s x s' I ⟨e,T,C,od,H',rfl,os,bare,un,hok,F,ne,nT,le,lT,hE⟩;have U:L2.Inv X pins σ H' s':=I.call' (ch:=[]) os un hok bare (fun b z=>absurd z (by simp))
 refine L.xe _ _ (yh (base:=X.base) (outer:=X.outer) (by rw[U.ok.frames,L.st]) (by rw[<-L.st];exact U.stack) L.fm F fun h' P Q l st=>?_)
 rw[<-L.st]at st;have Z:gG X.prog X.w H' h':=gG.fly hok st ne nT U.stkFree;have S:Un (ko X.stack) [] H H' s.heap h':=Un.fly un st le lT;have W:L2.Inv X pins σ H' {s' with heap:=h'}:=I.call' (s':={s' with heap:=h'}) (ch:=[]) os S Z bare (fun b z=>absurd z (by simp))
 have R:=W.base;have h0:=I.base;have Y:=U.base;rw[L.ex]at R h0 Y;exact⟨e,P,C,od,H',rfl,W.os,W.bare,R,W.hok,Q,ne,hok.fresh l,Un.gone h0 (by simp) le,Un.gone Y (by simp) (Nu l),hE⟩
theorem Leaves.new{H:Hp}(L:Leaves X Ek)
  (I:L2.Inv X pins σ H s') (O:s'.heap.get? e=ar oe) (K:oe.cls= .ref C) (J:oe.dict=od) (G:oe.data= .fields vs) (F:vs[1]? =ar .none) (Q:H e=none) (hs:X.s₀.heap.get? e=none) (N:Ek (.ref C) od H):X.xe (.ref e) s':=by
 refine L.xe _ _ (wc (base:=X.base) (outer:=X.outer) (by rw[I.ok.frames,L.st]) (by rw[<-L.st];exact I.stack) L.fm O K J G F fun h' B E l st=>?_)
 have S:∀b∈ko (X.env::X.outer),H b=none:=by rw[<-L.st];exact I.stkFree
 have W:gG X.prog X.w H h':=gG.fly I.hok st Q Q S;have Z:=I.base;rw[L.ex]at Z;have P:∀b o,X.s₀.heap.get? b=ar o->b∉ko X.outer->b∉ko (X.env::X.outer):=fun b o q n z=>by
  rw[we X.outer X.env.locals _ L.fm]at z;rcases MK.mp z with z|z
  ·exact absurd (Mx q) (by rw[z];exact QT.mpr I.ok.above)
  ·exact n z
 have ne:∀b o,X.s₀.heap.get? b=ar o->b≠e:=fun b o q=>ir q hs;refine⟨e,B,C,od,H,rfl,I.os,I.bare,⟨fun b o q n hf Y=>?_,fun b o q n hf Y=>?_,Z.free,fun b o q Y=>?_,Z.tups,Z.frzs,Z.tbls⟩,W,E,Q,I.hok.fresh l,hs,Un.gone Z (by simp) (Nu l),N⟩
 ·exact st.keep b o (Z.keep b o q n hf Y) (ne b o q) (ne b o q) (P b o q hf)
 ·obtain⟨y,T⟩:=Z.slot b o q n hf Y;obtain⟨U,R⟩:=st.slot b _ T (ne b o q) (ne b o q);exact⟨U,R⟩
 ·obtain⟨A,T⟩:=Z.there b o q Y;obtain⟨U,R⟩:=st.slot b _ T (ne b o q) (ne b o q);exact⟨_,R⟩
theorem bO{P:eM}{w:fg}{K:d_}{Z:Str->Option a_}{base:gd}{N:List Str}{qual:Str}{scope:Scope}{f:dt}{Y:a_}{A:hI}{outer:List Env}{s₀:c_}{H₀:Hp}:
  Leaves (kh (lH P w) P w K Z base N qual scope f Y A outer s₀ H₀ Ek) Ek:=⟨rfl,rfl,rfl,fun _ _ h=>h,PassesOwn.leaving⟩
end
structure DefX(P:eM)(w:fg)(K:d_)(mg:Str->Option a_)(base:gd)(k:Nat)(x:Str)(ps:List Str)(F:List D->M D):Prop where
 ex:∃f fd,FnOk P w K mg base (lH P w) k f fd ps (CQ K F)/\mg x=ar (.ref f)/\z5 K (.ref f)=b_/\Binds K fd ps []
section
variable {P:eM}{w:fg}{K:d_}{mg:Str->Option a_}{base:gd}
theorem HQ{x qual:Str}{X:ri}{f:dt}{E:gc}{N U:List Str}{k:Nat}{m:cV}(F:Fun K x qual X f E)(C:FnScope N U (av X))
  (R:∀(Z:a_) (A:hI) (outer:List Env) (s:c_) (H:Hp) (Y:XK),Room k (A.deeper (z8 qual (av X) s.heap.objs.size f Z))->Rl K Z qual=b_->(∃I od T kV doc pm an ct,K.lookup f=ar ⟨I,od,.func (D_ x qual (ja X) (dQ X) (av X) .none kV doc pm an Z ct),T⟩)->
   vN (kh (lH P w) P w K mg base N qual (av X) f Z A outer s H Y) (wj K Y) (dQ X) m):FnOk P w K mg base (lH P w) (k+1) f E U (CQ K (qf N.length U.length m)):=by
 have key:∀{vs:List V} {H:Hp} {Q:VK} {Y:XK},CQ K (qf N.length U.length m) vs H Q Y->vs.length=U.length/\∃ ι S ds,Rep K ι H S/\RelDs K ι H ds vs/\cont K (wj K Y) (do let o<-m (ds.map ar++lu (N.length - U.length) none);outD o) ι S H (lK K Q):=by
  rintro vs H Q Y ⟨ι,S,ds,rep,r,c⟩;unfold qf at c;by_cases L:ds.length=U.length
  ·rw[if_pos L]at c;exact⟨by rw[<-r.length];exact L,ι,S,ds,rep,r,c⟩
  ·rw[if_neg L]at c;exact(aj c).elim
 obtain⟨I,od,kV,doc,pm,an,Z,ct,T,rfl,G,O⟩:=F.ex;refine BP G O C (fun vs H Q Y h=>(key h).1) fun A outer s H vs Q Y B h=>⟨_,R Z A outer s H Y B O ⟨I,od,T,kV,doc,pm,an,ct,G⟩,?_⟩;obtain⟨L,ι,S,ds,rep,r,c⟩:=key h;refine⟨ι,S,_,rep,?_,aD (aq c) fun o y S1 v e1 rep1 J=>?_⟩
 ·have:=RelE.start r (N.length - U.length);unfold L2.start;rw[L];exact this
 ·cases o with
  |nx ρ=>exact fun z _=>ao J .refl rep1 _ .non
  |ret d=>exact ao J .refl rep1
  |bk ρ=>exact(aj J).elim
  |ct ρ=>exact(aj J).elim
end
section
variable {X:Cx}{Ek:XK}{e:Expr}{es:List Expr}{pos:Pos}{ms:aP->M (List D)}
theorem cK(d:DefX X.prog X.w X.K X.mg X.base k x ps F)(C:Room k X.A)(U:pV (lH X.prog X.w) X Ek)(R:SA X (wj X.K Ek) (e::es) ms)(I:Gl X x:=by rfl)
  (W:(x==("__debug__":Str))=false:=by decide) (P:ee (e::es) X.env=(dV,hS e X.env)::ee es X.env:=by rfl) (Z:(pa pos (ee es X.env)).any (·.1)=false:=by rfl):
  SE X (wj X.K Ek) (.Call (.Name x p) (e::es) [] pos) (aw F ms):=by
 obtain⟨f,fd,G,hm,O,N⟩:=d.ex;refine PE.imp (yE G C I hm O N (.nil) (E:=Ek) U R W P Z) fun σ H Q h=>?_;obtain⟨ι,S,ρ,rep,re,c⟩:=h;refine⟨ι,S,ρ,rep,re,aD (aq c) fun ds Y S1 T e1 rep1 L vs J=>?_⟩;show CQ X.K F (vs++[]) T Q Ek;rw[M3];exact⟨Y,S1,ds,rep1,J,L⟩
theorem aL(d:DefX X.prog X.w X.K X.mg X.base k x ps F)(I:Room k X.A)(T:SA X gQ (e::es) ms)(J:Gl X x:=by rfl)
  (W:(x==("__debug__":Str))=false:=by decide) (R:ee (e::es) X.env=(dV,hS e X.env)::ee es X.env:=by rfl) (Z:(pa pos (ee es X.env)).any (·.1)=false:=by rfl):
  SE X gQ (.Call (.Name x p) (e::es) [] pos) (aw F ms):=by
 obtain⟨f,fd,G,hm,P,O⟩:=d.ex;refine PE.imp (yE G I J hm P O (.nil) (E:=E0) A1 T W R Z) fun σ H Q h=>?_;obtain⟨ι,S,ρ,rep,re,c⟩:=h;refine⟨ι,S,ρ,rep,re,aD (aq c) fun ds Y S1 U e1 rep1 N vs L=>?_⟩;show CQ X.K F (vs++[]) U Q E0;rw[M3];exact⟨Y,S1,ds,rep1,L,CS N fun _ _ _ _ z=>z.elim⟩
end
def bg:List Str:=["WebError","NoWeb","NoPlace","NoPlaces","NoMap","NoSharing","NoRoot","NoNumber","NotJoined","NoTie","NoText","NoLine","NoDeed","TooGreat"]
def cW(n y:Str):Bool:=n==y||y=="WebError"
abbrev IS:List Value:=[.type "ValueError",.type "Exception",.type "BaseException",.type "object"]
def CT(K:d_)(n:Str):Bool:=match p_ K g_ n with
 | some (ar (.ref C))=>CN K C && (n=="TooGreat"||Sg K C IS "ValueError.__new__") && (r_ K (.ref C) (.type "ValueError")==ar b_) && (r_ K (.type "NoneType") (.ref C)==ar dV) &&
  bg.all (fun y=>match p_ K g_ y with
   |some (ar (.ref D))=>r_ K (.ref C) (.ref D)==ar (cW n y) && Ss K (.ref C) (.ref D)==ar (cW n y)
   |_=>dV)
 |_=>dV
def gT(K:d_):Bool:=bg.all (CT K) && r_ K (.type "NoneType") (.type "ValueError")==ar dV
structure ErrAt(K:d_)(n:Str)(C:dt):Prop where
 ns:p_ K g_ n=ar (ar (.ref C))
 ck:ExcC K C
 pl:n="TooGreat"\/Sg K C IS "ValueError.__new__"=b_
 ve:r_ K (.ref C) (.type "ValueError")=ar b_
 nn:r_ K (.type "NoneType") (.ref C)=ar dV
 sub:∀y∈bg,∃D,p_ K g_ y=ar (ar (.ref D))/\r_ K (.ref C) (.ref D)=ar (cW n y)/\Ss K (.ref C) (.ref D)=ar (cW n y)
theorem kK{K:d_}(h:gT K=b_){n:Str}(T:n∈bg):∃C,ErrAt K n C:=by
 unfold gT at h;rw[M5]at h;have Z:=MM.mp h.1 n T;unfold CT at Z;split at Z
 ·next C e=>
  simp only[i_,A_,beq_iff_eq,x']at Z;obtain⟨⟨⟨⟨a1,a2⟩,U⟩,X⟩,a5⟩:=Z;refine⟨C,e,.of a1,a2,U,X,fun y Y=>?_⟩;have:=a5 y Y;split at this
  ·next D eD=>
   simp only[i_,beq_iff_eq]at this;exact⟨D,eD,this.1,this.2⟩
  ·cases this
 ·cases Z
theorem HR{K:d_}(h:gT K=b_):r_ K (.type "NoneType") (.type "ValueError")=ar false:=by
 unfold gT at h;rw[M5,QU]at h;exact h.2
theorem EU{K:d_}(X:K.In h)(q:Sg K C IS "ValueError.__new__"=b_):∃bm N nm qn bs hdct sn sub ab col dd k0 k1 k2 k3 k5 mN,
  h.get? C=ar (wh nm qn C N bs bm hdct sn sub ab col dd k0 k1 k2 k3 k5 "ValueError.__new__")/\h.Ns N mN/\mN "__init__"=none/\RK h IS bm:=by
 unfold Sg at q;split at q
 case h_2=>cases q
 case h_1 dd cd T ho=>
 split at q
 case h_2=>cases q
 case h_1 C' bm k0 k1 k2 k3 n k5 hm hs=>
 simp only[i_,beq_iff_eq,G3]at q;obtain⟨⟨⟨⟨⟨S,en⟩,Z⟩,R⟩,Y⟩,U⟩:=q;subst S en;rcases cd with⟨nm,bs,mro,ns,qn,hd,sn,sub,ab,col,del⟩;dsimp only at hm Z Y U;subst hm Z;obtain rfl:T= #[k0,k1,k2,k3,ar (.builtin "ValueError.__new__"),k5]:=by rcases T with⟨l⟩;simp only at hs;rw[hs]
 exact⟨bm,ns,nm,qn,bs,hd,sn,sub,ab,col,dd,k0,k1,k2,k3,k5,_,X _ _ ho,.of_isNs (W.isNs_of_in X Y),W.nsMap_none_of_in X Y U,W.tail_of_in X R⟩
section
variable {X:Cx}{Ek:XK}{E:XD}
theorem CU(L:Leaves X Ek)(r:X.calm=b_)(g:gT X.K=b_)(u:x∈bg)(Q:x≠"TooGreat")(m:SA X (wj X.K Ek) (e::es) ms)(j:Gl X x:=by rfl)
  (A:(x==("__debug__":Str))=false:=by decide) (w:ee (e::es) X.env=(dV,hS e X.env)::ee es X.env:=by rfl) (G:(pa cpos (ee es X.env)).any (·.1)=false:=by rfl):
  SS X (wj X.K Ek) (.Raise (ar (.Call (.Name x np) (e::es) [] cpos)) none pos) (fun ρ=>do let ds<-ms ρ;if ds.length<=lim then M.raise (.exc x [])else M.fail):=by
 intro pins s σ H T I h;obtain⟨ι,S,ρ,rep,re,c⟩:=h;obtain⟨C,B⟩:=kK g u;have b:=B.pl.resolve_left Q;have hm:X.mg x=ar (.ref C):=MI I.mod.kin I.mod.glob B.ns;obtain⟨bm,N,nm,n,bs,hdct,sn,sub,ab,col,dd,k0,k1,k2,k3,k5,mN,i,f,J,y⟩:=EU I.mod.kin b;refine wpAny_Raise_call_subU (k5:=k5) (k3:=k3) (k2:=k2) (k1:=k1) (k0:=k0) (nm:=nm) (q:=n) (C:=C) (N:=N) (bm:=bm) (bs:=bs) (hdct:=hdct) (sn:=sn) (sub:=sub) (ab:=ab) (col:=col) (dd:=dd) N4 (by decide) N4 (mN:=mN) (y.hasType PySem.F.excBase_ValueError.hasBase) (I.ok.hd r) (by rw[w];show(dV||(pa cpos (ee es X.env)).any (·.1))=dV;rw[G];rfl) J (kX I j hm ⟨rfl,?_⟩ A)
 have Y:=m cpos pins s σ H _ I ⟨ι,S,ρ,rep,re,aD (aq c) fun ds Z S1 W e1 rep1 R vs O=>(⟨Z,S1,ds,rep1,O,R⟩:∃Z S1 ds,Rep X.K Z W S1/\RelDs X.K Z W ds vs/\cont X.K (wj X.K Ek) (if ds.length<=lim then M.raise (.exc x [])else M.fail) Z S1 W _)⟩;rw[w]at Y⊢;refine Pp (Nf Y (fun us s2 P=>?_) fun _ _ z=>z);obtain⟨vs,W,U,o,Z,S1,ds,rep1,O,R⟩:=P;by_cases hl:ds.length<=lim
 ·rw[if_pos hl]at R;refine⟨rfl,?_,U.bk _ _ i,f.keeps U.bk,y.keeps U.bk,fun h' a hm=>?_⟩
  ·show us.length<=sizeLine;rw[<-o.length, <-O.length];exact ME hl gX
  ·obtain⟨t,d,h2,h3⟩:=hm.there;have l:L2.Inv X pins σ W {s2 with heap:=h'}:=U.kept (t':=s2.toks) hm.keeps;have v:=U.base;rw[L.ex]at v;obtain⟨r',S',p,k⟩:=R;cases p;refine L.new l d rfl rfl rfl rfl (gG.gone U.hok hm.new) (Un.gone v (by simp) hm.new) (k Z W .refl rep1 _ _ ⟨x,[],C,rfl,B.ns,rfl,.inl ⟨rfl,rfl⟩⟩)
 ·rw[if_neg hl]at R;exact(aj R).elim
def wm(f:Str->Bool):D->M D
 | .exc n _=>if n∈bg then aC (.bl (f n))else M.fail
 | .non=>aC (.bl dV)
 |_=>M.fail
theorem A4(x:oX C a od h)(S:od=none\/∃dx fs,od=ar dx/\bB P w H h dx (.xd fs)):∃ox odo,z4 h a ox C odo:=by
 obtain⟨Y,vs,e,T,U,hf⟩:=x;have Z:Sv Y=true:=by unfold Sv;rw[hf]
 rcases S with rfl|⟨dx,fs,rfl,h2⟩
 ·exact⟨Y,none,e,T,Z,by rw[U];trivial⟩
 ·obtain⟨R,e2⟩:=bB.there h2;exact⟨Y,ar R,e,T,Z,by rw[U];exact e2⟩
theorem EV{Q:a_->c_->Prop}(I:L2.Inv X pins σ H s)(r:RelD X.K ι H (.exc n ds) v)(U:RelV v u)
  (T:gT X.K=b_) (S:n∈bg) (Y:∀C,ErrAt X.K n C->r_ X.K (.ref C) cv=ar b) (h:∀tk,Q (.bool b) {s with toks:=tk}):er (f_ X.prog X.w) A (call (.builtin "isinstance") [u,cv]) Q Ex s:=by
 obtain⟨C,Z⟩:=kK T S;have fin:∀{a C2:dt} {od:Option dt},p_ X.K g_ n=ar (ar (.ref C2))->v= .ref a->oX C2 a od s.heap->(od=none\/∃dx fs,od=ar dx/\bB X.prog X.w H s.heap dx (.xd fs))->er (f_ X.prog X.w) A (call (.builtin "isinstance") [u,cv]) Q Ex s:=by
  rintro a C2 od e1 rfl ph hd;rw[Z.ns]at e1;cases e1;obtain rfl:u=ey a:=U;exact Nt (CO Z.ck) I.kIn (A4 ph hd) (Y C Z) (fun z=>nomatch z) h
 cases r with
 |exc e1 e2=>exact fin e1 rfl (I.hok _ _ e2).1 (.inl rfl)
 |excF e1 e2 e3 e4 e5=>exact fin e1 rfl (I.hok _ _ e2).1 (.inr ⟨_,_,rfl,I.hok _ _ e3⟩)
theorem CV{Q:a_->c_->Prop}(I:L2.Inv X pins σ H s)(Z:r_ X.K (.type "NoneType") cv=ar dV)(h:∀tk,Q (.bool dV) {s with toks:=tk}):
  er (f_ X.prog X.w) A (call (.builtin "isinstance") [.none,cv]) Q Ex s:=Nt P8 I.kIn p7 Z (fun z=>nomatch z) h
theorem zh{q:Pos}{f:Str->Bool}(A:gT X.K=b_)(G:X.mg "isinstance"=none)(F:SE X E e m)(O:PE X ec (tC vc))(R:∀u,RelV vc u->u=cv)(z:r_ X.K (.type "NoneType") cv=ar dV)
  (y:∀n∈bg,∀C,ErrAt X.K n C->r_ X.K (.ref C) cv=ar (f n)) (B:Gl X "isinstance":=by rfl)
  (hs:ee [e,ec] X.env=[(dV,hS e X.env),(dV,hS ec X.env)]:=by rfl) (Z:ee [ec] X.env=[(dV,hS ec X.env)]:=by rfl):
  SE X E (.Call (.Name "isinstance" p) [e,ec] [] pos) (fun ρ=>do let x<-m ρ;wm f x):=by
 have U:ef X (.builtin "isinstance") (fun xs H Q=>∃x ι d,xs=[x,vc]/\RelD X.K ι H d x/\((d= .non/\Q (.bl dV) H)\/∃n ds,d= .exc n ds/\n∈bg/\Q (.bl (f n)) H)):=by
  intro pins s σ H xs us Q I r h;obtain⟨x,ι,d,rfl,J,t⟩:=h;obtain⟨u,l,rfl,L,P⟩:=vals2 r;cases R _ P;rcases t with⟨rfl,q⟩|⟨n,ds,rfl,hn',q⟩
  ·cases J.non_inv;cases (show u=hO from L);exact CV I z fun T=>⟨.bl _,H,I.tok T,rfl,q⟩
  ·exact EV I J L A hn' (fun C w=>y n hn' C w) fun T=>⟨.bl _,H,I.tok T,rfl,q⟩
 refine PE.imp (ky U B G (by decide+kernel) (fN F (fN O ku Z) (by rw[hs,Z])) (by decide) (by decide) (by rw[hs,Z]) (by rw[Z];rfl)) fun σ H Q h=>?_
 obtain⟨ι,S,ρ,rep,re,c⟩:=h;refine⟨ι,S,ρ,rep,re,aD (aq c) fun x N S1 o e1 rep1 Y v r=>?_⟩;refine⟨v,N,x,rfl,r,?_⟩;cases x with
 |non=>exact .inl ⟨rfl,ao Y .refl rep1 _ (.bl _)⟩
 | exc n ds=>
  dsimp only[wm]at Y;by_cases hn':n∈bg
  ·rw[if_pos hn']at Y;exact .inr ⟨n,ds,rfl,hn',ao Y .refl rep1 _ (.bl _)⟩
  ·rw[if_neg hn']at Y;exact(aj Y).elim
 |_=>exact(aj Y).elim
theorem fu{m:TM}{e:Expr}{y:Str}{p q pos:Pos}(T:gT X.K=b_)(S:y∈bg)(G:Mod X.K X.mg X.base)(Q:X.mg "isinstance"=none)(P:SE X E e m)(O:Gl X "isinstance":=by rfl)(U:Gl X y:=by rfl)(R:(y==("__debug__":Str))=false:=by decide)
  (hs:ee [e,.Name y q] X.env=[(dV,hS e X.env),(dV,hS (.Name y q) X.env)]:=by rfl) (Y:ee [.Name y q] X.env=[(dV,hS (.Name y q) X.env)]:=by rfl):
  SE X E (.Call (.Name "isinstance" p) [e,.Name y q] [] pos) (fun ρ=>do let x<-m ρ;wm (fun n=>cW n y) x):=by
 obtain⟨C,W⟩:=kK T S;refine zh (q:=q) (vc:=.ref C) (cv:=.ref C) T Q P (yD U (MI G.kin G.glob W.ns) rfl R) (fun u z=>z) W.nn (fun n N J Z=>?_) O hs Y;obtain⟨L,e1,e2,_⟩:=Z.sub y S;rw[W.ns]at e1;cases e1;exact e2
theorem EX(T:gT X.K=b_)(Q:X.mg "isinstance"=none)(Y:X.mg "ValueError"=none)(S:SE X E e m)(R:Gl X "isinstance":=by rfl)(U:Gl X "ValueError":=by rfl)
  (hs:ee [e,.Name "ValueError" q] X.env=[(dV,hS e X.env),(dV,hS (.Name "ValueError" q) X.env)]:=by rfl) (Z:ee [.Name "ValueError" q] X.env=[(dV,hS (.Name "ValueError" q) X.env)]:=by rfl):
  SE X E (.Call (.Name "isinstance" p) [e,.Name "ValueError" q] [] pos) (fun ρ=>do let x<-m ρ;wm (fun _=>b_) x):=
 zh (q:=q) (vc:=.ty "ValueError") (cv:=.type "ValueError") T Q S (pE U Y (by decide+kernel) rfl) (fun u z=>z) (HR T) (fun n O P W=>W.ve) R hs Z
end
abbrev kL(ql:Str)(scope:Scope)(f c':dt)(cl:List (Str×dt))(s:c_):Env:=W.envX ql scope s.heap.objs.size f (.ref c') cl
def wo(P:eM)(w:fg)(K:d_)(mg:Str->Option a_)(base:gd)(N:List Str)(ql:Str)(scope:Scope)(f c':dt)(cl:List (Str×dt))(A:hI)(outer:List Env)(s:c_)(H:Hp)(Ek:XK):Cx where
 prog:=P
 w:=w
 K:=K
 mg:=mg
 base:=base
 A:=A.deeper (kL ql scope f c' cl s)
 N:=N
 s₀:=s
 H₀:=H
 env:=kL ql scope f c' cl s
 outer:=outer
 stack:=kL ql scope f c' cl s::outer
 ex:=[]
 calm:=b_
 fn:=fun _=>dV
 pn:=[]
 xe:=fun e s'=>er (f_ P w) (A.deeper (kL ql scope f c' cl s)) (Q0 (kL ql scope f c' cl s) e) (fun _ s''=>lH P w outer H s Ek e s'') (fun e' s''=>lH P w outer H s Ek e' s'') s'
section
variable {P:eM}{w:fg}{K:d_}{mg:Str->Option a_}{base:gd}{N:List Str}{ql:Str}{scope:Scope}{f c':dt}{cl:List (Str×dt)}{params:Q2}{body:Expr}{pm ctv:a_}
theorem jR:Leaves (wo P w K mg base N ql scope f c' cl A outer s H Ek) Ek:=⟨rfl,rfl,rfl,fun _ _ h=>h,PassesOwn.leaving⟩
structure Caps(base:gd)(scope:Scope)(cl:List (Str×dt))(N:List Str)(vs:List V):Prop where
 kind:scope.kind= .function
 nocell:∀y∈scope.names,y.2≠ .cell
 co:scope.isCoroutine=dV
 gen:scope.isGenerator=dV
 inj:∀x y c,cl.lookup x=ar c->cl.lookup y=ar c->x=y
 has:∀x,scope.names.lookup x=ar .free->∃c,cl.lookup x=ar c
 cell:∀x c,cl.lookup x=ar c->∃v,base.IsCell c v
 len:vs.length=N.length
 val:∀(i:Nat) (x:Str) (v:V),N[i]? =ar x->vs[i]? =ar v->scope.names.lookup x=ar .free/\∃c u,cl.lookup x=ar c/\RelV v u/\base.IsCell c (ar u)
def JS(K:d_)(c':dt)(ql:Str)(ds:List D)(vs:List V)(m:TM):Hp->VK->XK->Prop:=fun H Q Ek=>
 ∃ ι S,Rep K ι H S/\H c'=ar (.ext (rZ ql c'))/\RelDs K ι H ds vs/\cont K (wj K Ek) (m (ds.map ar)) ι S H (lK K Q)
theorem iu{h h':gd}(x:h.IsCell c v)(k:∀b o,h.get? b=ar o->h'.get? b=ar o):h'.IsCell c v:=let ⟨o,e,r⟩:=x;⟨o,k _ _ e,r⟩
theorem wq:∀{ds:List D} {vs:List V},RelDs K ι H ds vs->RelE K ι H (ds.map ar) (vs.map ar)
 |_,_,.nil=>.nil
 |_,_,.cons r t=>.cons (fun d z=>by cases z;exact⟨_,rfl,r⟩) (wq t)
theorem HS(ho:base.get? f=ar (y1 "<lambda>" ql params body scope cl pm c' ctv))(Y:Caps base scope cl N vs)
  (U:RP (Su "<lambda>" ql params body scope cl pm (.ref c') ctv) ⟨[],[]⟩=aC [])
  (T:∀(A:hI) (outer:List Env) (s:c_) (H:Hp) (L:XK),Room k (A.deeper (kL ql scope f c' cl s))->SE (wo P w K mg base N ql scope f c' cl A outer s H L) (wj K L) body m):
  LamOk P w K mg base (k+1) f (JS K c' ql ds vs m):=by
 refine⟨⟨_,_,ho,rfl⟩,fun A outer s H Q L l Z n=>?_⟩;obtain⟨ι,S,rep,C,rd,c⟩:=n;have bk:∀b o,base.get? b=ar o->s.heap.get? b=ar o:=fun b o e=>(Z.bs b o e).1;have t:s.heap.CodeRec (.ref c') ql:=(Z.hok _ _ C).1;refine W.kla_callFunE l.depth (bk _ _ ho) rfl Y.co Y.gen rfl t ?_;rw[U];refine Mr (wpAny_newFunctionEnv Y.nocell (fun y hy=>absurd hy (by simp)) (fun h1 d B=>?_) Y.kind)
 have G:∀b o,s.heap.get? b=ar o->h1.get? b=ar o:=fun b o e=>(B.2 b (MD (Mx e))).trans (Mp _ e);refine⟨(Z.mod.nolimit.keeps bk).keeps G,?_⟩;show B_ _ _ (.expr body (kL ql scope f c' cl s)) _ _;refine W.kla_codeExpr ?_;have X:∀b:dt,b∉([]:List dt):=fun b z=>by cases z
 have j:∀x,scope.names.lookup x≠ar .cell:=fun x e=>Y.nocell _ (bL e) rfl;have I:L2.Inv (wo P w K mg base N ql scope f c' cl A outer s H L) [] (vs.map ar) H {s with heap:=h1,toks:=s.toks+0}:=
  ⟨⟨Z.mod,Y.kind,rfl,rfl,Ms _,Y.inj,(fun x R=>by
    rcases R with R|R
    ·exact absurd R (j x)
    ·exact Y.has x R),(fun _ _ z=>Bool.noConfusion z),fun _=>l.hd,Around.frames_deeper Z.frames,.inr ⟨rfl,rfl⟩,fun b z=>absurd z (X b),Z.bs,Z.bsz,fun b _ _=>X b,fun b z=>absurd z (X b),Z.funs,Z.frf⟩,
   rfl,Z.bare,Un.kept G,⟨_,d,fun i x v h O h3=>(by
    have E:vs[i]? =ar v:=by
     rw[MO]at O;cases q:vs[i]? with
     |none=>rw[q]at O;cases O
     |some a=>rw[q]at O;cases O;rfl
    obtain⟨hf,F,u,e1,e2,e3⟩:=Y.val i x v h E;exact⟨u,e2,.inr ⟨.inr hf,F,e1,iu (iu e3 bk) G⟩⟩)⟩,
   (fun x F e=>let ⟨v,z⟩:=Y.cell x F e;⟨v,iu (iu z bk) G⟩),Z.hok.fresh (Ms _),(fun x F e=>let ⟨v,o,z,_⟩:=Y.cell x F e;(Z.bs _ _ z).2),
   (fun p hp=>absurd hp (by simp[wo])),Z.hok.kept G,by rw[Mq];exact Y.len⟩
 refine Nf (T A outer s H L (l.deeper _) [] _ (vs.map ar) H Q I ⟨ι,S,ds.map ar,rep,wq rd,c⟩) (fun u s' g=>?_) fun e s' g=>g;obtain⟨v,H',J,r,q⟩:=g;exact⟨v,H',J.os,J.bare,J.base,J.hok,r,q⟩
end
theorem RelE.unset{K:d_}{ι:List dt}{H:Hp}:∀{ρ:S3.aP} {σ:L2.St} (i:Nat),RelE K ι H ρ σ->RelE K ι H (ρ.set i none) (σ.set i none)
 |_,_,_,.nil=>.nil
 |_,_,0,.cons _ t=>.cons (fun d' z=>by cases z) t
 |_,_,i+1,.cons q t=>.cons q (RelE.unset i t)
def CY(jn jy:Nat)(c:M D)(ρ:S3.aP):M Out:=fun S=>match c S with
 |some (.ok _,S')=>ar (.ok (.nx ρ),S')
 |some (.ex (.exc n ds),S')=>if n∈bg then ar (.ok (.nx (((ρ.set jn (ar (.exc n ds))).set jy (ar (.exc n ds))).set jn none)),S')else none
 |_=>none
open Classical in
def wt(i jn jy:Nat)(f:D)(c:M D):cV:=fun ρ=>if ρ[i]? =ar (ar f)then CY jn jy c ρ else M.fail
section
variable {X:Cx}{E:XD}{k i jn jy:Nat}{a c':dt}{ql:Str}{ds:List D}{vs:List V}{m:TM}{x n y:Str}{p cpos epos np p1 p2 p3 hpos tpos:Pos}
theorem HU(s:X.stack=X.env::X.outer)(J:X.env.frame=ar X.env.locals)(L:LamOk X.prog X.w X.K X.mg X.base k a (JS X.K c' ql ds vs m))(hr:Room k X.A)(hN:X.N.Nodup)(c:gT X.K=b_)(G:Mod X.K X.mg X.base)(hi:X.N[i]? =ar x)(hv:Bu X.env.scope x)
  (u:X.N[jn]? =ar n) (I:X.N[jy]? =ar y) (B:X.env.scope.names.lookup n=ar .local) (l:X.env.scope.names.lookup y=ar .local) (hg:Gl X "WebError")
  (hd:(x==("__debug__":Str))=false:=by decide) (F:(x==("__classdict__":Str))=false:=by decide) (j:(n==("__debug__":Str))=false:=by decide) (O:(n==("__classdict__":Str))=false:=by decide)
  (o:la (.Call (.Name x p) [] [] cpos) none epos.line X.env=aC false:=by rfl) (P:la (.Name n p2) (ar (.Name y p1)) p3.line X.env=aC false:=by rfl):
  SS X E (.Try [.Expr (.Call (.Name x p) [] [] cpos) epos] [.ExceptHandler (ar (.Name "WebError" np)) (ar n) [.Assign [.Name y p1] (.Name n p2) p3] hpos] [] [] tpos) (wt i jn jy (.fn a c' ql ds vs) (m (ds.map ar))):=by
 obtain⟨CW,g⟩:=kK c (show("WebError":Str)∈bg from .head _);refine PS.imp (A3 s J L hr hN hi hv u I B l hg (MI G.kin G.glob g.ns) hd F (by decide) j O o P) fun T σ H h=>?_
 obtain⟨ι,S,ρ,rep,re,r,S',e,q⟩:=h;have e:wt i jn jy (.fn a c' ql ds vs) (m (ds.map ar)) ρ S=ar (r,S'):=e;unfold wt at e;by_cases hρ:ρ[i]? =ar (ar (.fn a c' ql ds vs))
 case neg=>rw[if_neg hρ]at e;cases e
 rw[if_pos hρ]at e;unfold CY at e;obtain⟨v,e1,rv⟩:=re.get hρ;cases rv with
 | fn hc' rds=>
  refine⟨e1,ι,S,rep,hc',rds,?_⟩;cases z:m (ds.map ar) S with
  |none=>rw[z]at e;cases e
  | some pr=>
   obtain⟨r1,S1⟩:=pr;rw[z]at e;cases r1 with
   |ok d=>
    cases e;exact⟨_,_,z,fun Z U R rep1 v' _=>q Z U R rep1 σ (re.later rep R)⟩
   | ex xd=>
    cases xd with
    | exc nm es=>
     dsimp only at e;split at e
     case isFalse=>cases e
     case isTrue hnm=>
     cases e;refine⟨_,_,z,fun Z U R rep1 cls od rx=>?_⟩;obtain⟨n2,a4,C,e2,W,rfl,t⟩:=rx;cases e2;obtain⟨C2,b⟩:=kK c hnm;have:=b.ns;rw[W]at this;cases this;obtain⟨D2,f1,f2,f3⟩:=b.sub "WebError" (.head _);rw[g.ns]at f1;cases f1;refine⟨C,rfl,by rw[f3];simp[cW],fun Q Y=>?_⟩
     have xe:Ext Z U Z (upd U Q (.ext (oX C Q od))):=fO Y;have f:RelD X.K Z (upd U Q (.ext (oX C Q od))) (.exc nm es) (.ref Q):=by
      rcases t with⟨rfl,rfl⟩|⟨dx,fs,rfl,g1,g2,g3⟩
      ·exact .exc W aX
      ·exact .excF W aX (by rw[aK (aR g1 Y)];exact g1) g2 (g3.later rep1 xe)
     exact q Z _ (R.trans xe) (gH rep1 Y) _ (RelE.unset jn ((((re.later rep R).later rep1 xe).set f jn).set f jy))
    |_=>cases e
end
def yj:List Nat->S3.aP->Option (List D)
 |[],_=>ar []
 |j::r,ρ=>match ρ[j]? with
  |some (ar d)=>(yj r ρ).map (d::·)
  |_=>none
theorem zj{K:d_}{ι:List dt}{H:Hp}{ρ:S3.aP}{Z:L2.St}(Y:RelE K ι H ρ Z):∀{js:List Nat} {ds:List D},yj js ρ=ar ds->∃vs,RelDs K ι H ds vs/\vs.length=js.length/\∀(i j:Nat) (v:V),js[i]? =ar j->vs[i]? =ar v->Z[j]? =ar (ar v)
 |[],ds,e=>by
  cases e;exact⟨[],.nil,rfl,fun i j v h=>by simp at h⟩
 | j ::r,ds,e=>by
  unfold yj at e;cases q:ρ[j]? with
  |none=>rw[q]at e;cases e
  | some o=>
   cases o with
   |none=>rw[q]at e;cases e
   | some d=>
    rw[q]at e;cases q2:yj r ρ with
    |none=>rw[q2]at e;cases e
    |some es=>
     rw[q2]at e;cases e;obtain⟨v,U,T⟩:=Y.get q;obtain⟨vs,g1,g2,g3⟩:=zj Y q2;refine⟨v::vs,.cons T g1,by simp[g2],fun i X S e1 e2=>?_⟩
     cases i with
     |zero=>simp at e1 e2;subst e1 e2;exact U
     |succ i=>exact g3 i X S (by simpa using e1) (by simpa using e2)
structure LamScope(X:Cx)(scope:Scope)(N3:List Str)(js:List Nat):Prop where
 kind:scope.kind= .function
 nocell:∀y∈scope.names,y.2≠ .cell
 co:scope.isCoroutine=dV
 gen:scope.isGenerator=dV
 free:∀y∈scope.names,y.2= .free->X.env.kindOf y.1=ar .cell\/X.env.kindOf y.1=ar .free
 len:js.length=N3.length
 ix:∀(i:Nat) (x:Str) (j:Nat),N3[i]? =ar x->js[i]? =ar j->X.N[j]? =ar x/\scope.names.lookup x=ar .free
def JT(fs:Scope)(N:List Str)(scope:Scope)(N3:List Str)(js:List Nat):Bool:=
 (scope.kind== .function) && scope.names.all (fun y=>y.2 != .cell) && !scope.isCoroutine && !scope.isGenerator &&
  scope.names.all (fun y=>y.2 != .free||(fs.names.lookup y.1==ar .cell||fs.names.lookup y.1==ar .free)) && (js.length==N3.length) &&
  (N3.zip js).all (fun p=>N[p.2]? ==ar p.1 && scope.names.lookup p.1==ar .free)
theorem EY{X:Cx}(fs:Scope)(N:List Str)(S:∀x,X.env.kindOf x=fs.names.lookup x)(Y:X.N=N)(h:JT fs N scope N3 js=b_):LamScope X scope N3 js:=by
 unfold JT at h;simp only[i_,x',beq_iff_eq,bne_iff_ne,A_,G3]at h;obtain⟨⟨⟨⟨⟨⟨W,U⟩,R⟩,Q⟩,Z⟩,L⟩,P⟩:=h;refine⟨W,U,R,Q,fun y T e=>?_,L,fun i x j e1 e2=>?_⟩
 ·rw[S];exact(Z y T).resolve_left fun z=>z e
 ·have O:(N3.zip js)[i]? =ar (x,j):=OO.mpr ⟨e1,e2⟩;have:=P _ (M1 O);rw[Y];exact this
def CZ(K:d_)(R:D->M D->List D->M D)(a c':dt)(ql:Str)(ds:List D)(vs:List V)(m:TM):Sp:=fun us H Q _=>
 ∃ ι S rest es,us= .ref a::rest/\Rep K ι H S/\H c'=ar (.ext (rZ ql c'))/\RelDs K ι H ds vs/\RelDs K ι H es rest/\cont K gQ (R (.fn a c' ql ds vs) (m (ds.map ar)) es) ι S H (lK K Q)
structure RefX(P:eM)(w:fg)(K:d_)(mg:Str->Option a_)(k k0:Nat)(x:Str)(ps:List Str)(R:D->M D->List D->M D):Prop where
 ex:∃fr fd,mg x=ar (.ref fr)/\z5 K (.ref fr)=b_/\Binds K fd ps []/\∀base,Mod K mg base->∀a c' ql ds vs m,LamOk P w K mg base k0 a (JS K c' ql ds vs m)->FnOk P w K mg base (lH P w) k fr fd ps (CZ K R a c' ql ds vs m)
abbrev sh(js:List Nat)(ms:aP->M (List D))(m:TM)(R:M D->List D->M D):TM:=fun ρ=>match yj js ρ with
 |some ds=>(do let es<-ms ρ;R (m (ds.map ar)) es)
 |none=>M.fail
theorem lO{h Z:gd}:∀{l:List Env},h.FunFrames base l->(∀b∈ko l,Z.get? b=none)->h.FunFrames Z l
 |[],_,_=>trivial
 |env::rest,⟨hk,⟨L,o,hf,_,ho,hd⟩,hr⟩,hn=>by
  rw[we rest L env hf]at hn;exact⟨hk,⟨L,o,hf,hn L (.head _),ho,hd⟩,lO hr fun b Y=>hn b (.tail _ Y)⟩
abbrev kM(X:Cx)(H:Hp)(h:gd):Heap:=W.hideAll (lF h H) (ko X.stack)
theorem my{X:Cx}{H:Hp}{h:gd}(e:h.get? b=ar o)(n:H b=none)(Z:b∉ko X.stack):(kM X H h).get? b=ar o:=W.hideAll_get _ (mJ e n) Z
section
variable {X:Cx}{pins:List (dt×Obj)}{σ:L2.St}{H:Hp}{s:c_}
theorem nq(I:L2.Inv X pins σ H s):∀b o,X.base.get? b=ar o->(kM X H s.heap).get? b=ar o:=fun b o e=>by
 obtain⟨Z,Y⟩:=I.bs b o e;refine my Z Y fun z=>?_;have:=(I.stack.mem z).1;rw[e]at this;cases this
theorem jq(I:L2.Inv X pins σ H s):Mod X.K X.mg (kM X H s.heap):=
 ⟨I.mod.kin.keeps (nq I),I.mod.glob.keeps (nq I),let ⟨mb,h1,h2⟩:=I.mod.blt;⟨mb,h1.keeps (nq I),h2⟩,I.mod.nolimit.keeps (nq I)⟩
theorem EZ(I:L2.Inv X pins σ H s):L2.aP X.prog X.w X.K X.mg (kM X H s.heap) X.A X.stack s H:=
 ⟨I.ok.frames,jq I,fun b o e=>tW (W.of_hideAll _ e),by rw[W.hideAll_size,nP];exact Ms _,lO I.stack fun b Z=>W.hideAll_none _ Z,I.stkFree,I.hok,I.bare⟩
theorem zl(I:L2.Inv X pins σ H s)(Z:∀x,X.fn x=b_)(e:X.env.cells.lookup x=ar c)(h:s.heap.IsCell c v):(kM X H s.heap).IsCell c v:=by
 obtain⟨o,Y,W⟩:=h;refine⟨o,my Y (I.freeC x c e) fun z=>?_,W⟩;rcases MK.mp (I.stkSub c z)with z|z
 ·exact I.cne x c e z
 ·obtain⟨_,U,q,_⟩:=I.ok.funs.mem z;exact absurd (Mx q) (QT.mpr (I.ok.cab x c (Z x) e))
end
section
variable {X:Cx}{x xl ql:Str}{k k0:Nat}{ps N3:List Str}{js:List Nat}{R:D->M D->List D->M D}{R':M D->List D->M D}{params:Q2}{body:Expr}{scope:Scope}{lpos p pos:Pos}{es:List Expr}{ms:aP->M (List D)}{m:TM}{c P:dt}
theorem uQ(d:RefX X.prog X.w X.K X.mg k (k0+1) x ps R)(hR:∀f c es,R f c es=R' c es)(hr:Room k X.A)(a7:∀x,X.fn x=b_)(d2:xl∈cI)(ht:m2 X.K xl=ar (c,P))(a3:X.env.code= .ref c)(hq:X.env.qual++"<lambda>"=ql)(c6:ql=xl++".<locals>.<lambda>")
  (B:BaseL X.K X.mg X.base) (TI:uN X.K) (a9:defaultsOf params X.env=([],[])) (g:LamScope X scope N3 js) (ha:SA X gQ es ms)
  (a4:∀(T:dt) (cl:List (Str×dt)) (pm C:a_),RP (Su "<lambda>" ql params body scope cl pm (.ref T) C) ⟨[],[]⟩=aC [])
  (a6:∀(base:gd),Mod X.K X.mg base->∀(f T:dt) (cl:List (Str×dt)) (A:hI) (outer:List Env) (s:c_) (H:Hp) (Ek:XK),Room k0 (A.deeper (kL ql scope f T cl s))->SE (wo X.prog X.w X.K X.mg base N3 ql scope f T cl A outer s H Ek) (wj X.K Ek) body m)
  (hg:Gl X x:=by rfl) (e3:(x==("__debug__":Str))=false:=by decide)
  (he:ee (.Lambda params body scope lpos::es) X.env=(dV,hS (.Lambda params body scope lpos) X.env)::ee es X.env:=by rfl) (d7:(pa pos (ee es X.env)).any (·.1)=false:=by rfl):
  SE X gQ (.Call (.Name x p) (.Lambda params body scope lpos::es) [] pos) (sh js ms m R'):=by
 intro pins s σ H Q I h;obtain⟨ι,S,ρ,rep,re,b⟩:=h;obtain⟨fr,fd,hm,hk,hb,F⟩:=d.ex;have b:cont X.K gQ (sh js ms m R' ρ) ι S H (lK X.K Q):=b;unfold sh at b;cases hcap:yj js ρ with
 |none=>rw[hcap]at b;exact(aj b).elim
 |some ds=>
 rw[hcap]at b;dsimp only at b;obtain⟨vs,e0,b1,d4⟩:=zj re hcap;have l:∀y∈scope.names,y.2= .free->∃a,X.env.cells.lookup y.1=ar a:=fun y hy e=>I.ok.has y.1 (g.free y hy e);refine Ot (kX I hg hm ?_ e3);refine W.callWith_K (h₀:=X.base) I.ok.mod.kin hk (spliced_more (HP d2 ht a3 hq c6 B TI (mT scope X.env l) a9 I rep.tab fun f T C pm H1 s1 I1 b5 c4 c3 b2 E f5 hT=>?_) he) he d7;have x1:Ext ι H ι H1:=⟨⟨[],by simp⟩,fun a o e n t=>⟨E a o e t,n⟩⟩
 have rep1:Rep X.K ι H1 S:=⟨rep.nd,rep.len,fun kk a xs e1 e2=>let ⟨ws,g1,g2⟩:=rep.get kk a xs e1 e2;⟨ws,E _ _ g1 (by intro _ z;cases z),g2.later rep x1⟩,hT⟩
 have d8:L2.Inv X ((f,y1 "<lambda>" ql params body scope (kz X.env.cells scope.names []) pm T C)::pins) σ H1 s1:=I1.pins_of fun q Y=>by
  rcases MK.mp Y with rfl|Y
  ·exact⟨c4,c3,kr (MD (MG I.lt b5)),I.nofs b5,fun v z=>by cases z⟩
  ·exact I1.pin q (MX _ Y)
 refine eJ (ha pos _ s1 σ H1 (fun L N=>∃U S2 O,Ext ι H1 U N/\Rep X.K U N S2/\RelDs X.K U N O L/\cont X.K gQ (R' (m (ds.map ar)) O) U S2 N (lK X.K Q)) d8 ⟨ι,S,ρ,rep1,re.later rep x1,aD (aq (iH b x1)) fun O U S2 N e2 rep2 c2 L r2=>⟨U,S2,O,e2,rep2,r2,c2⟩⟩) fun us s2 d5=>?_;obtain⟨L,N,a0,rv,U,S2,O,x2,rep2,r2,c2⟩:=d5;have J:L2.Inv X pins σ N s2:=a0.pins_of fun q Y=>a0.pin q (MX _ (.tail _ Y));refine⟨J.kIn,?_⟩;show er _ _ (call (.ref fr) (.ref f::us)) _ _ _;obtain⟨po,pn,pl,pf,_⟩:=a0.pin (f,_) (MX _ (.head _));have d1:N T=ar (.ext (rZ ql T)):=(x2.oth T _ b2 (rep1.notIn b2 (by intro _ z;cases z)) (by intro _ z;cases z)).1
 have nf:f∉ko X.stack:=fun z=>by
  rcases MK.mp (J.stkSub f z)with z|z
  ·exact pl z
  ·exact pf z
 have c7:=uh (cells:=X.env.cells) scope.names [] l (fun _ z=>nomatch z);have Z:∀y a,(kz X.env.cells scope.names []).lookup y=ar a->X.env.cells.lookup y=ar a:=fun y a e=>c7 _ (lookup_mem e);have cp:Caps (kM X N s2.heap) scope (kz X.env.cells scope.names []) N3 vs:=by
  refine⟨g.kind,g.nocell,g.co,g.gen,fun y z a e1 e2=>I.ok.inj y z a (Z y a e1) (Z z a e2),fun y e=>mem_lookup (kA scope.names [] (.inl (bL e))),fun y a e=>?_,by rw[b1];exact g.len,fun i y v e1 e2=>?_⟩
  ·obtain⟨v,z⟩:=J.cell y a (Z y a e);exact⟨v,zl J a7 (Z y a e) z⟩
  ·have c5:i<js.length:=by rw[<-b1];exact(Mv.mp e2).1
   obtain⟨j,hj⟩:∃j,js[i]? =ar j:=⟨_,Mt c5⟩;obtain⟨g1,g2⟩:=g.ix i y j e1 hj;have hv:=d4 i j v hj e2;have a8:=g.free (y,.free) (bL g2) rfl;have b3:Bu X.env.scope y:=by
    rcases a8 with z|z
    ·exact .inr (.inl z)
    ·exact .inr (.inr z)
   obtain⟨mm,j1,hl⟩:=J.loc;obtain⟨u,ru,lk⟩:=hl j y v g1 hv b3;refine⟨g2,?_⟩;rcases lk with⟨z,_⟩|⟨_,a,ea,hca⟩
   ·have z':X.env.kindOf y=ar .local:=z;rcases a8 with w'|w'
    ·have w2:X.env.kindOf y=ar .cell:=w';rw[z']at w2;cases w2
    ·have w2:X.env.kindOf y=ar .free:=w';rw[z']at w2;cases w2
   ·obtain⟨a2,b6⟩:=mem_lookup (kA (cells:=X.env.cells) scope.names [] (.inl (bL g2)));have:=Z y a2 b6;rw[ea]at this;cases this;exact⟨a,u,b6,ru,zl J a7 ea hca⟩
 have LO:LamOk X.prog X.w X.K X.mg (kM X N s2.heap) (k0+1) f (JS X.K T ql ds vs m):=HS (my po pn nf) cp (a4 T _ pm C) fun A outer s H Ek e4=>a6 _ (jq J) f T _ A outer s H Ek e4;have G:=F (kM X N s2.heap) (jq J) f T ql ds vs m LO;have sp:CZ X.K R f T ql ds vs m (.ref f::L) N Q E0:=⟨U,S2,L,O,rfl,rep2,d1,(e0.later rep x1).later rep1 x2,r2,by rw[hR];exact c2⟩
 have hlen:(ey f::us).length=ps.length:=by
  have:=G.len _ _ _ _ sp;rw[<-this,MW,MW,rv.length]
 refine O8 (Od (G.run X.A X.stack s2 N ⟨.ref f::us,[]⟩ (.ref f::us) (.ref f::L) Q E0 hr (EZ J) (by have:=hb s2 (.ref f::us) J.kIn (by rw[M3];exact hlen);rw[M3]at this;exact this) (.cons rfl rv) sp) fun r s' Y=>?_)
 cases r with
 |error e=>obtain⟨_,_,_,_,_,_,_,_,_,_,_,_,_,_,_,z⟩:=Y;exact hJ z
 |ok fl=>
  cases fl with
  |ret u=>exact J.after Y
  |next=>exact hJ Y
  |brk=>exact hJ Y
  |cont=>exact hJ Y
end
def kN(K:d_):List Addr:=cI.filterMap fun y=>(m2 K y).map (·.2)
theorem A5{K:d_}{y:Str}{c P:dt}(Z:y∈cI)(e:m2 K y=ar (c,P)):P∈kN K:=NS.mpr ⟨y,Z,by rw[e];rfl⟩
theorem wu{K:d_}{P:dt}(h:P∈kN K):∃y c,y∈cI/\m2 K y=ar (c,P):=by
 obtain⟨y,Z,e⟩:=NS.mp h;cases q:m2 K y with
 |none=>rw[q]at e;cases e
 |some p=>rw[q]at e;cases e;exact⟨y,p.1,Z,q⟩
theorem E1{K:d_}{l:Str->Option a_}{sp:Sp}{Z:c_}{vs:List a_}
  (KX:K.In Z.heap) (nt:Sw K=b_) (f:Z.heap.Ns g_ mg) (hb:Z.heap.Ns wd l) (a6:∀x:Str,x≠"__name__"->l x=k8 x) (B:Z.heap.NoLimit) (hg:Z.gens= #[])
  (i:∃bm J,mg "__builtins__"=ar (.ref bm)/\bm≠wd/\Z.heap.get? bm=ar J/\J.cls= .type "module"/\J.dict=ar wd/\J.data= .plain)
  (U:∀y∈cI,∀c Q,m2 K y=ar (c,Q)->QQ Z.heap c Q/\Z.heap.get? Q=ar (xy #[]))
  (I:Z.heap.get? a=ar {cls:=.type "list",data:=.seq vs.toArray}) (hi:n7 vs ns) (hl:ns.length<=sizeLine) (hr:Room k w_)
  (F:∀base:gd,Mod K mg base->BaseL K mg base->FnOk P w K mg base (lH P w) k fa fd [x] sp) (N:∀(s:c_) (u:a_),F_ s fd ⟨[u],[]⟩ [(x,u)])
  (j:∀H:Hp,TabsOk K H->D8 K H a (ns.map V.int)->sp [.ref a] H (fun v _=>v= .bl b_) fun _ _ _=>False):
  B_ (f_ P w) w_ (.call (.ref fa) ⟨[.ref a],[]⟩) (fun r s'=>r= .ok (.ret (.bool b_))/\OldK Z.heap s'.heap/\s'.os=Z.os/\y2 s'.gens) Z:=by
 have rv:=jA hi;have X:∀Q∈kN K,Z.heap.get? Q=ar (xy #[]):=fun Q hQ=>let ⟨y,c,O,e⟩:=wu hQ;(U y O c Q e).2;have aT:a∉kN K:=fun z=>by
  have:=X a z;rw[I]at this;cases this
 let H:Hp:=fun b=>if b∈kN K then ar (.tbl #[])else if b=a/\K.lookup a=none then ar (.frz {cls:=.type "list",data:=.seq vs.toArray} (.lst (ns.map V.int)))else none;have n:∀b∈kN K,H b=ar (.tbl #[]):=fun b z=>if_pos z;have G:∀b,b∉kN K->H b=if b=a/\K.lookup a=none then ar (.frz {cls:=.type "list",data:=.seq vs.toArray} (.lst (ns.map V.int)))else none:=fun b z=>if_neg z;have free:∀{b:dt} {o:Obj},Z.heap.get? b=ar o->o≠xy #[]->(o.cls≠ .type "list"\/K.lookup b=ar o)->H b=none:=fun{b o} e g S=>by
  have z:b∉kN K:=fun z=>by
   have:=X b z;rw[e]at this;exact g (MS this)
  rw[G b z,if_neg];rintro⟨rfl,kn⟩;rcases S with S|S
  ·rw[I]at e;cases e;exact S rfl
  ·rw[kn]at S;cases S
 have R:∀{b:dt} {o:Obj},K.lookup b=ar o->o≠xy #[]:=fun{b o} e z=>by
  have p:=MM.mp nt (b,o) (W.mem_of_lookupK e);subst z;exact absurd (show dV=b_ from p) NT
 have C:gG P w H Z.heap:=fun b u e=>by
  by_cases z:b∈kN K
  ·rw[n b z]at e;cases e;exact X b z
  ·rw[G b z]at e;by_cases q:b=a/\K.lookup a=none
   ·rw[if_pos q]at e;cases e;obtain⟨rfl,_⟩:=q;exact⟨I,by rw[Mq];exact hl,vs,_,rv,I⟩
   ·rw[if_neg q]at e;cases e
 have Y:∀{b:dt} {o:Obj},Z.heap.get? b=ar o->o≠xy #[]->(o.cls≠ .type "list"\/K.lookup b=ar o)->(lF Z.heap H).get? b=ar o:=fun e g S=>mJ e (free e g S);have L:∀{b:dt} {m:Str->Option a_},Z.heap.Ns b m->(lF Z.heap H).Ns b m:=fun{b m} ⟨o,es,ep,e,d,r⟩=>by
  have z:H b=none:=by
   by_cases zt:b∈kN K
   ·have:=X b zt;rw[e]at this;cases this;cases d
   ·rw[G b zt,if_neg];rintro⟨rfl,_⟩;rw[I]at e;cases e;cases d
  exact⟨o,es,ep,mJ e z,d,r⟩
 have a5:K.In (lF Z.heap H):=fun b o e=>Y (KX b o e) (R e) (.inr e);have hM:Mod K mg (lF Z.heap H):=⟨a5,L f,⟨l,L hb,a6⟩,let ⟨mc,h1,p⟩:=B;⟨mc,L h1,p⟩⟩;have hB:BaseL K mg (lF Z.heap H):=by
  refine⟨?_,fun y O c Q e=>?_⟩
  ·obtain⟨bm,J,b1,b2,b3,A,b5,b6⟩:=i;exact⟨bm,J,b1,b2,Y b3 (fun z=>by rw[z]at A;cases A) (.inl (by rw[A];decide)),A,b5,b6⟩
  ·obtain⟨o,v2,file,tf,flags,tg,a4,text,tt,e1,t,r⟩:=(U y O c Q e).1;exact⟨o,v2,file,tf,flags,tg,a4,text,tt,Y e1 (fun z=>by rw[z]at t;cases t) (.inl (by rw[t];decide)),t,r⟩
 have e0:L2.aP P w K mg (lF Z.heap H) w_ [] Z H:=⟨rfl,hM,fun b o e=>tW e,OV (nP _ _),trivial,fun b hb=>absurd (show b∈([]:List dt)from hb) (by simp),C,.of_eq hg⟩
 have a0:TabsOk K H:=fun y O c Q e=>⟨#[],n Q (A5 O e),trivial,fun pos cv q=>by cases q⟩
 have E:D8 K H a (ns.map V.int):=by
  cases hk:K.lookup a with
  |some o=>
   have e:=KX a o hk;rw[I]at e;cases e;exact .inr ⟨_,vs.toArray,_,hk,rfl,rfl,rfl,by rw[MB,hi.length];exact hl,by simpa using rv⟩
  |none=>exact .inl ⟨_,by rw[G a aT,if_pos ⟨rfl,hk⟩]⟩
 refine Od ((F _ hM hB).run w_ [] Z H ⟨[.ref a],[]⟩ [.ref a] [.ref a] _ _ hr e0 (N Z (.ref a)) (.cons rfl .nil) (j H a0 E)) fun r s' h=>?_;cases r with
 |error e=>obtain⟨_,_,_,_,_,_,_,_,_,_,_,_,_,_,_,z⟩:=h;exact hJ z
 | ok fl=>
  cases fl with
  |next=>exact hJ h
  |brk=>exact hJ h
  |cont=>exact hJ h
  | ret u=>
   obtain⟨v,H',os,bare,un,T,r',q⟩:=h;have q':v= .bl true:=q;subst q';obtain rfl:u=t6 true:=r';refine⟨rfl,⟨fun b o e=>?_,fun b o e=>un.there b o e (by simp)⟩,os,bare⟩
   by_cases zt:b∈kN K
   ·obtain⟨y,c,O,et⟩:=wu zt;obtain⟨hc,hP⟩:=U y O c b et;obtain⟨more,em⟩:=un.tbls b _ (n b zt);have o2:s'.heap.get? b=ar {cls:=.none,data:=.fields (#[]++more)}:=T b _ em;rw[hP]at e;cases e;exact .inr (.inl ⟨(hc.tab hP).isCodeTable,rfl, #[],more,rfl,o2⟩)
   ·by_cases qa:b=a/\K.lookup a=none
    ·have z1:H b=ar (.frz {cls:=.type "list",data:=.seq vs.toArray} (.lst (ns.map V.int))):=by rw[G b zt,if_pos qa]
     obtain⟨e2,_⟩:=T b _ (un.frzs b _ _ z1);obtain⟨e1,_⟩:=C b _ z1;rw[e]at e1;cases e1;exact .inl e2
    ·exact .inl (un.keep b o e (by rw[G b zt,if_neg qa]) (by intro z;exact absurd (show b∈([]:List dt)from z) (by simp)) (by simp))
theorem C0{l:R5}{YP:fg->gd->Prop}{d:Sy}{K:O'->d_}{sp:fg->Sp}
  (r:l.most=ar n) (R:n<=sizeLine) (O:d.params.defaults=[]) (A:Room k w_)
  (m:∀(w:fg) (h:gd),YP w h->(K w.params).In h) (j:∀w:fg,Sw (K w.params)=b_)
  (U:∀(w:fg) (h:gd),YP w h->∀y∈cI,∀c Q,m2 (K w.params) y=ar (c,Q)->QQ h c Q/\h.get? Q=ar (xy #[]))
  (F:∀(w:fg) (Z:Str->Option a_) (S:dt) (h:gd),(K w.params).In h->h.Ns g_ Z->Z d.name=ar (.ref S)->
   ∃fd:gc,(∀(s:c_) (u:a_),F_ s fd ⟨[u],[]⟩ [(x,u)])/\
    ∀base:gd,Mod (K w.params) Z base->BaseL (K w.params) Z base->FnOk l.prog w (K w.params) Z base (lH l.prog w) k S fd [x] (sp w))
  (P:∀(w:fg) (H:Hp) (a:dt) (ns:List Int),ns.length<=n->TabsOk (K w.params) H->D8 (K w.params) H a (ns.map V.int)->sp w [.ref a] H (fun v _=>v= .bl b_) fun _ _ _=>False):
  SL q loose XP YP l.row.toRowW d [] (fun f vs=>PySem.call f vs):=by
 refine Att.attach_call r O fun w s₀ J Z i S o pm cd doc a vs ns G Y ho hd E N X hints hlen B=>?_;have L:=m w _ Y;obtain⟨fd,C,t⟩:=F w Z S _ L G.T.g N;refine E1 L (j w) G.T.g G.T.b G.T.builtins G.T.nolimit B G.T.bmain (fun y p c Q e=>U w _ Y y p c Q e) X hints (ME hlen R) A t C fun H z I=>P w H a ns hlen z I
def JU(K:d_)(ts:List dt):Bool:=cI.all fun y=>match m2 K y with
 |some (c,Q)=>W.codeHdIn K c Q && ts.contains Q
 |none=>b_
theorem LC{K:O'->d_}{e:∀P,as=(K P).map (·.1)}{w:fg}(X:JU (K w.params) ts=b_)(Y:(W.kmHook K as e ts).says w h):
  ∀y∈cI,∀c Q,m2 (K w.params) y=ar (c,Q)->QQ h c Q/\h.get? Q=ar (xy #[]):=fun y U c Q Z=>by
 have:=MM.mp X y U;rw[Z]at this;simp only[i_]at this;exact⟨W.codeHd_of_K (W.km_in_of Y) this.1,W.km_tabs_of Y Q (List.contains_iff_mem.mp this.2)⟩
def Ga(K:d_):Bool:=cI.all fun x=>cI.all fun y=>match m2 K x,m2 K y with
 |some (_,P),ar (_,Q)=>P !=Q||x==y
 |_,_=>b_
theorem HV{K:d_}(h:Ga K=b_):uN K:=fun x Z y Y c d P e1 e2=>by
 have:=MM.mp (MM.mp h x Z) y Y;rw[e1,e2]at this;simpa using this
def lq(N n:Nat)(m:cV):List D->M D:=qf N n (fun ρ=>pj (m ρ))
section
variable {P:eM}{w:fg}{K:d_}{mg:Str->Option a_}{base:gd}
theorem bQ{x qual:Str}{X:ri}{f:dt}{T:gc}{N U:List Str}{k:Nat}{m:cV}{S:List D->M D}(F:Fun K x qual X f T)(Q:mg x=ar (.ref f))(J:Binds K T U [])(O:FnScope N U (av X))(R:S=lq N.length U.length m)
  (Y:∀(Z:a_) (A:hI) (outer:List Env) (s:c_) (H:Hp) (E:XK),Room k (A.deeper (z8 qual (av X) s.heap.objs.size f Z))->
   vN (kh (lH P w) P w K mg base N qual (av X) f Z A outer s H E).nox gQ (dQ X) m):DefX P w K mg base (k+1) x U S:=
 ⟨f,T,by rw[R];exact HQ F O fun Z A outer s H L I _ _=>wk (uP (Y Z A outer s H L I)),Q,F.kp,J⟩
theorem lr{x qual:Str}{X:ri}{f:dt}{T:gc}{N U:List Str}{k:Nat}{m:cV}{S:List D->M D}(F:Fun K x qual X f T)(Q:mg x=ar (.ref f))(J:Binds K T U [])(O:FnScope N U (av X))(R:S=qf N.length U.length m)
  (Y:∀(Z:a_) (A:hI) (outer:List Env) (s:c_) (H:Hp) (E:XK),Room k (A.deeper (z8 qual (av X) s.heap.objs.size f Z))->
   vN (kh (lH P w) P w K mg base N qual (av X) f Z A outer s H E) (wj K E) (dQ X) m):DefX P w K mg base (k+1) x U S:=
 ⟨f,T,by rw[R];exact HQ F O fun Z A outer s H L I _ _=>Y Z A outer s H L I,Q,F.kp,J⟩
theorem E2{x y qual:Str}{f c S:dt}{R:a_}{od:Option dt}{X:Array (Option a_)}{kV U L Y ct N:a_}{J:Option dt}{Q:Q2}{I:List ri}{O:Scope}(T:p_ K g_ x=ar (ar (.ref f)))
  (H:K.lookup f=ar ⟨R,od,.func (D_ y qual Q I O N kV U L J Y ct),X⟩) (Z:m2 K x=ar (c,S)):Y= .ref c:=by
 unfold m2 at Z;rw[T]at Z;dsimp only at Z;rw[H]at Z;dsimp only at Z;cases Y with
 | ref c2=>
  dsimp only at Z;split at Z
  ·split at Z
   ·cases Z;rfl
   ·cases Z
  ·cases Z
 |_=>cases Z
theorem HW{x qual:Str}{Y:ri}{f:dt}{S:gc}{N U:List Str}{k:Nat}{m:cV}{R:List D->M D}{c O:dt}(F:Fun K x qual Y f S)(G:FnScope N U (av Y))(L:R=lq N.length U.length m)(Q:p_ K g_ x=ar (ar (.ref f)))(I:m2 K x=ar (c,O))
  (Z:∀(A:hI) (outer:List Env) (s:c_) (H:Hp) (E:XK),Room k (A.deeper (z8 qual (av Y) s.heap.objs.size f (.ref c)))->
   vN (kh (lH P w) P w K mg base N qual (av Y) f (.ref c) A outer s H E).nox gQ (dQ Y) m):FnOk P w K mg base (lH P w) (k+1) f S U (CQ K R):=by
 rw[L];refine HQ F G fun X A outer s H C J _ T=>?_;obtain⟨v,od,B,kV,doc,pm,an,ct,y⟩:=T;have z:X= .ref c:=E2 Q y I;subst z;exact wk (uP (Z A outer s H C J))
theorem HX{x qual:Str}{O:ri}{f:dt}{z:gc}{N Y:List Str}{k k0:Nat}{m:D->M D->cV}{R:D->M D->List D->M D}(F:Fun K x qual O f z)(v:mg x=ar (.ref f))(t:Binds K z Y [])(u:FnScope N Y (av O))(j:R=fun I c es=>qf N.length Y.length (m I c) (I::es))
  (U:∀(base:gd),Mod K mg base->∀(a X:dt) (ql:Str) (ds:List D) (vs:List V) (mm:TM),LamOk P w K mg base k0 a (JS K X ql ds vs mm)->∀(Z:a_) (A:hI) (outer:List Env) (s:c_) (H:Hp) (E:XK),Room k (A.deeper (z8 qual (av O) s.heap.objs.size f Z))->
   vN (kh (lH P w) P w K mg base N qual (av O) f Z A outer s H E).nox gQ (dQ O) (m (.fn a X ql ds vs) (mm (ds.map ar)))):RefX P w K mg (k+1) k0 x Y R:=by
 refine⟨f,z,v,F.kp,t,fun base G a X ql ds vs mm L=>?_⟩;rw[j];obtain⟨e,od,kV,doc,pm,an,Z,ct,q,rfl,i,B⟩:=F.ex;have key:∀{us:List V} {H:Hp} {Q:VK} {T:XK},CZ K (fun I c es=>qf N.length Y.length (m I c) (I::es)) a X ql ds vs mm us H Q T->us.length=Y.length/\∃ ι S es,Rep K ι H S/\RelDs K ι H es us/\cont K gQ (do let o<-m (.fn a X ql ds vs) (mm (ds.map ar)) (es.map ar++lu (N.length - Y.length) none);outD o) ι S H (lK K Q):=by
  rintro us H Q T ⟨ι,S,rest,es,rfl,rep,hc',rds,res,c⟩;have y:RelDs K ι H (.fn a X ql ds vs::es) (.ref a::rest):=.cons (.fn hc' rds) res;unfold qf at c;dsimp only at c;by_cases J:(D.fn a X ql ds vs::es).length=Y.length
  ·rw[if_pos J]at c;exact⟨by rw[<-y.length];exact J,ι,S,_,rep,y,c⟩
  ·rw[if_neg J]at c;exact(aj c).elim
 refine BP i B u (fun us H Q T h=>(key h).1) fun A outer s H us Q T p h=>⟨_,uP (U base G a X ql ds vs mm L Z A outer s H T p),?_⟩;obtain⟨J,ι,S,es,rep,r,c⟩:=key h;refine⟨ι,S,_,rep,?_,aD (aq c) fun o l S1 g e1 rep1 C=>?_⟩
 ·have:=RelE.start r (N.length - Y.length);unfold L2.start;rw[J];exact this
 ·cases o with
  |nx ρ=>exact fun n _=>ao C .refl rep1 _ .non
  |ret d=>exact ao C .refl rep1
  |bk ρ=>exact(aj C).elim
  |ct ρ=>exact(aj C).elim
end
end S7
section
namespace S4
open PySem PySem.Spec PyProof.Rows
section
variable {prog:eM}{w:fg}{A:hI}{E:a_->c_->Prop}{s:c_}
end
end S4
namespace S3
open PySem PySem.Spec PyProof.Rows L2 S4
section
variable {X:Cx}{E:XD}{e:Expr}{m:TM}{pos:Pos}
end
end S3
end
namespace S4
open PySem PySem.Spec PyProof.Rows L2 S3
def E3(l1 l2:dt):It:=⟨fun i H=>∃va vb,Rd H l1 (.lst va)/\Rd H l2 (.lst vb)/\i<va.length/\i<vb.length,
 fun i H x H'=>∃va vb p u v,Rd H l1 (.lst va)/\Rd H l2 (.lst vb)/\H p=none/\va[i]? =ar u/\vb[i]? =ar v/\x= .ref p/\H'=upd H p (.tup [u,v]),fun i H=>∃va vb,Rd H l1 (.lst va)/\Rd H l2 (.lst vb)/\(va.length<=i\/vb.length<=i)⟩
theorem A6{P:eM}{w:fg}{K:d_}{C:List Expr}{x1}{tp:Pos}{z TI TO L Q l1 n:dt}(D:R0 z TI TO L Q l1 n):
  Turn P w K (.Tuple C x1 tp) (E3 l1 n) [z,TI,TO,L,Q] z
   (fun i h=>LI h z TI TO .none/\q_ h TI (.ref L) (.ref Q)/\(∃a b,q_ h TO a b)/\h.IsListIter L l1 i/\h.IsListIter Q n i) where
 mem:=by simp
 obj:=fun i h st b Y=>by
  obtain⟨S,Z,⟨a,c,U⟩,⟨o1,e1,c1,d1⟩,⟨o2,e2,c2,d2⟩⟩:=st;simp only[f',fb,or_false]at Y;rcases Y with rfl|rfl|rfl|rfl|rfl
  ·exact⟨_,S,fun v z=>by cases z⟩
  ·exact⟨_,Z,fun v z=>by cases z⟩
  ·exact⟨_,U,fun v z=>by cases z⟩
  ·exact⟨_,e1,fun v z=>by rw[d1]at z;cases z⟩
  ·exact⟨_,e2,fun v z=>by rw[d2]at z;cases z⟩
 keep:=fun i h h' st k=>by
  obtain⟨S,Z,⟨a,c,U⟩,G,J⟩:=st;exact⟨k z (by simp) _ S,k TI (by simp) _ Z,⟨a,c,k TO (by simp) _ U⟩,G.at fun o e=>k L (by simp) o e,J.at fun o e=>k Q (by simp) o e⟩
 item:=by
  intro X hP hw hK hc i pins s σ H E I hf st hg;subst hP hw hK;obtain⟨S,Z,⟨a,c,U⟩,G,J⟩:=st;obtain⟨r,p,t,q,ga,gb⟩:=hg;obtain⟨A,O,p1,_⟩:=I.list (.inl t);obtain⟨B,N,p2,_⟩:=I.list (.inl q);obtain⟨d,b4,m⟩:=O.get (Mt ga);obtain⟨u2,b5,j⟩:=N.get (Mt gb);refine wpAny_pyNext_zip_item D S Z U G J p1.isList p2.isList (x:=d) (y:=u2) (by simpa using b4) (by simpa using b5) fun h' a1 a2 a3 a4 a5 a6 u=>?_
  have a9:H s.heap.objs.size=none:=I.hok.fresh (Ms _);have lt:∀{c o},s.heap.get? c=ar o->s.heap.objs.size≠c:=fun e=>NZ (Mx e);refine⟨_,rfl,P6 a1 fun R l T=>?_⟩;have F:q_ R TI (.ref L) (.ref Q):=T.extBut _ _ D.TIz (u _ _ D.TIz D.TITO D.TIi1 D.TIi2 Z);have kk:∀b o,b∉[z,TI,TO,L,Q]->s.heap.get? b=ar o->R.get? b=ar o:=fun b o Y e=>by
   simp only[f',fb,or_false,not_or]at Y;exact T.extBut _ _ Y.1 (u b o Y.1 Y.2.2.1 Y.2.2.2.1 Y.2.2.2.2 e)
  have f:q_ R s.heap.objs.size d u2:=T.extBut _ _ (lt S) a5;have I2:L2.Inv X pins σ (upd H s.heap.objs.size (.tup [r[i],p[i]])) {s with heap:=R,toks:=s.toks}:=uK (o:=.tup [r[i],p[i]]) I hf kk (Ms _) ⟨by show 2<=sizeLine;decide,[d,u2],.cons m (.cons j .nil),_,f,rfl,_,rfl⟩
  refine⟨.ref s.heap.objs.size,_,I2,rfl,
   ⟨r,p,_,_,_,t,q,a9,Mt ga,Mt gb,rfl,rfl⟩,⟨l,F,⟨_,_,T.extBut _ _ D.TOz a2⟩,a3.at fun o e=>T.extBut _ _ D.i1z e,a4.at fun o e=>T.extBut _ _ D.i2z e⟩,fun b Y=>?_⟩
  obtain⟨ob,ho,_⟩:∃ob,s.heap.get? b=ar ob/\True:=by
   simp only[f',fb,or_false]at Y;rcases Y with rfl|rfl|rfl|rfl|rfl
   ·exact⟨_,S,trivial⟩
   ·exact⟨_,Z,trivial⟩
   ·exact⟨_,U,trivial⟩
   ·obtain⟨o,e,_⟩:=G;exact⟨_,e,trivial⟩
   ·obtain⟨o,e,_⟩:=J;exact⟨_,e,trivial⟩
  rw[aK (MD (Mx ho))];exact(hf b Y).1
 done:=by
  intro X hP hw hK hc i pins s σ H E I hf st hg;subst hP hw hK;obtain⟨S,Z,⟨a,c,U⟩,G,J⟩:=st;obtain⟨r,p,t,q,gs⟩:=hg;obtain⟨A,O,p1,_⟩:=I.list (.inl t);obtain⟨B,N,p2,_⟩:=I.list (.inl q);have d7:=O.length;have d3:=N.length;refine wpAny_pyNext_zip_end (I.ok.hd hc) D S Z U G J p1.isList p2.isList (gs.imp (fun g=>by simp;omega) fun g=>by simp;omega) fun h' u=>⟨rfl,uJ (t':=s.toks) I hf fun b o Y e=>?_⟩
  simp only[f',fb,or_false,not_or]at Y;exact u b o Y.1 Y.2.2.1 Y.2.2.2.1 Y.2.2.2.2 e
 self:=fun _ _ _ _ _ st h=>Pl st.1 h
theorem E4{X:Cx}{L:List Expr}{x1}{tp p pos:Pos}{es:List Expr}{e:Expr}{z:TA}(v:Gl X "zip")(x:X.mg "zip"=none)(y:PA X (e::es) z)
  (w:ee (e::es) X.env=(dV,hS e X.env)::ee es X.env:=by rfl) (B:(pa pos (ee es X.env)).any (·.1)=false:=by rfl):
  PI X (.Tuple L x1 tp) (.Call (.Name "zip" p) (e::es) [] pos) (fun σ H R=>z σ H fun xs Z=>(∃a b va vb,xs=[.ref a,.ref b]/\Rd Z a (.lst va)/\Rd Z b (.lst vb)/\R (E3 a b) Z)\/
   (∃a b va vb,xs=[.ref a,.ref b]/\Z a=ar (.tup va)/\Z b=ar (.tup vb)/\
   R ⟨fun i H=>(Bx va vb).go i H/\(H a=ar (.tup va)/\H b=ar (.tup vb)),(Bx va vb).yld,fun i H=>(Bx va vb).stop i H/\(H a=ar (.tup va)/\H b=ar (.tup vb))⟩ Z)):=by
 intro pins s σ H R I h;refine SU (lY I v x (show k8 "zip"=ar (.type "zip") by decide+kernel) (ND (eJ (y pos pins s σ H _ I h) fun us s1 ⟨vs,Z,I1,r1,q1⟩=>?_) w B) (by decide) (by decide))
 have fresh:∀c∈[s1.heap.objs.size+4,s1.heap.objs.size+2,s1.heap.objs.size+3,s1.heap.objs.size,s1.heap.objs.size+1],s1.heap.objs.size<=c:=fun c T=>by
  simp only[f',fb,or_false]at T;omega
 rcases q1 with⟨a,b,va,vb,rfl,hA,hB,q⟩|⟨a,b,va,vb,rfl,hA,hB,q⟩
 ·obtain⟨u,F,rfl,G,U⟩:=vals2 r1;cases (show u=ey a from G);cases (show F=ey b from U);obtain⟨J,C,P,_⟩:=I1.list (.inl hA);obtain⟨K,E,O,_⟩:=I1.list (.inl hB);have a1:a<s1.heap.objs.size:=by obtain⟨_,e,_⟩:=P.isList;exact Mx e
  have a2:b<s1.heap.objs.size:=by obtain⟨_,e,_⟩:=O.isList;exact Mx e
  refine call_zip_2 P.isList O.isList fun h' N S Y W Q _ A=>Pl N ?_;exact⟨s1.heap.objs.size+4,_,_,_,Z,rfl,I1.kept (t':=s1.toks) A,A6 (zipApart_new a1 a2),⟨N,S,⟨_,_,Y⟩,W,Q⟩,fun c T=>I1.fpOk (fresh c T) (I1.hok.fresh (fresh c T)),q⟩
 ·obtain⟨u,F,rfl,G,U⟩:=vals2 r1;cases (show u=ey a from G);cases (show F=ey b from U);obtain⟨J,C,P,_⟩:=I1.tuple (.of hA);obtain⟨K,E,O,_⟩:=I1.tuple (.of hB);have a1:a<s1.heap.objs.size:=by obtain⟨_,e,_⟩:=P;exact Mx e
  have a2:b<s1.heap.objs.size:=by obtain⟨_,e,_⟩:=O;exact Mx e
  refine AY P O fun h' N S Y W Q A=>Pl N ?_;exact⟨s1.heap.objs.size+4,_,_,_,Z,rfl,I1.kept (t':=s1.toks) A,CJ (zipApart_new a1 a2) (fun H=>H a=ar (.tup va)/\H b=ar (.tup vb)) (fun _=>.rfl),⟨N,S,⟨_,_,Y⟩,W,Q⟩,fun c T=>I1.fpOk (fresh c T) (I1.hok.fresh (fresh c T)),q⟩
theorem Rd.lst_inj(h:Rd H a (.lst xs))(h':Rd H a (.lst ys)):xs=ys:=by
 rcases h with h|⟨o,h⟩<;>rcases h' with h'|⟨o',h'⟩<;>(rw[h]at h';cases h'<;>rfl)
def zL:D->M (List D×Option (Nat×List D))
 | .lst k=>do let xs<-getL k;aC (xs,ar (k,xs))
 | .fz xs=>aC (xs,none)
 |_=>M.fail
def HY:Option (Nat×List D)->Option (Nat×List D)->Chk
 |some (k,xs),ar (j,ys)=>.two k j xs ys
 |some (k,xs),none=>.two k k xs xs
 |none,ar (j,ys)=>.two j j ys ys
 |none,none=>.none
def C1:List D->M Iter
 |[.tup xs,.tup ys]=>aC ⟨(xs.zip ys).map fun p=>.tup [p.1,p.2],.none⟩
 |[a,b]=>do let x<-zL a;let y<-zL b;aC ⟨(x.1.zip y.1).map fun p=>.tup [p.1,p.2],HY x.2 y.2⟩
 |_=>M.fail
structure ZOk(K:d_)(x:List D×Option (Nat×List D))(a:dt)(ι:List dt)(H:Hp):Prop where
 ok:∀ ι2 H2 S2,ExtN ι H ι2 H2->Rep K ι2 H2 S2->(∀k xs,x.2=ar (k,xs)->S2[k]? =ar xs)->∃va,Rd H2 a (.lst va)/\RelDs K ι2 H2 x.1 va
theorem C3{K:d_}{E:XD}{ι:List dt}{S:aF}{H:Hp}{d:D}{v:V}{P:Type}{f:List D×Option (Nat×List D)->M P}{Q:P->List dt->aF->Hp->Prop}(Z:Rep K ι H S)(r:RelD K ι H d v)(c:cont K E (zL d>>=f) ι S H Q):
  ∃a x U,v= .ref a/\Rd H a (.lst U)/\ZOk K x a ι H/\cont K E (f x) ι S H Q:=by
 cases d with
 | lst k=>
  obtain⟨a,rfl,Y⟩:=r.lst_inv;have J:cont K E (getL k>>=fun xs=>aC (xs,ar (k,xs))>>=f) ι S H Q:=by
   rw[<-gz];exact c
  obtain⟨xs,vs,G,L,R,T⟩:=bH J Z Y;rw[au]at T;refine⟨a,(xs,ar (k,xs)),vs,rfl,.inl L,⟨fun X N S2 e rep2 ok=>?_⟩,T⟩;obtain⟨U,O,I⟩:=rep2.get k a xs (e.at Y) (ok k xs rfl);exact⟨U,.inl O,I⟩
 |fz xs=>
  obtain⟨a,o,vs,rfl,Y,R⟩:=r.fz_inv;refine⟨a,(xs,none),vs,rfl,.inr ⟨o,Y⟩,⟨fun X N S2 e rep2 ok=>?_⟩,ao (aq c) .refl Z⟩;exact⟨vs,.inr ⟨o,(e.oth _ _ Y (Z.notIn Y (by intro _ z;cases z)) (by intro _ z;cases z) (by intro _ z;cases z)).1⟩,R.laterN Z e⟩
 |_=>exact(aj (aq c)).elim
theorem E5(h:Iter.okS ⟨items,HY x y⟩ S):(∀k xs,x=ar (k,xs)->S[k]? =ar xs)/\∀k xs,y=ar (k,xs)->S[k]? =ar xs:=by
 match x,y,h with
 |some (k,xs),ar (j,ys),h=>exact⟨fun _ _ e=>(by cases e;exact h.1),fun _ _ e=>(by cases e;exact h.2)⟩
 |some (k,xs),none,h=>exact⟨fun _ _ e=>(by cases e;exact h.1),fun _ _ e=>(by cases e)⟩
 |none,ar (j,ys),h=>exact⟨fun _ _ e=>(by cases e),fun _ _ e=>(by cases e;exact h.1)⟩
 |none,none,h=>exact⟨fun _ _ e=>(by cases e),fun _ _ e=>(by cases e)⟩
theorem wx{K:d_}{ι:List dt}{H:Hp}{a b:dt}{x y:List D×Option (Nat×List D)}(I:ZOk K x a ι H)(C:ZOk K y b ι H):
  kF K ⟨(x.1.zip y.1).map fun p=>.tup [p.1,p.2],HY x.2 y.2⟩ (E3 a b) ι H:=by
 intro Z S S2 e rep2 ok i;obtain⟨R,P⟩:=E5 ok;obtain⟨N,X,U⟩:=I.ok Z S S2 e rep2 R;obtain⟨J,Y,T⟩:=C.ok Z S S2 e rep2 P;have B:=U.length;have r:=T.length;refine⟨fun d hd=>?_,fun hlen=>?_⟩
 ·obtain⟨t,w,L,O,rfl⟩:=zip_get hd;have q:=(Mv.mp L).1;have A:=(Mv.mp O).1;refine⟨⟨N,J,X,Y,by omega,by omega⟩,?_⟩
  rintro v H3 ⟨va',vb',p,u,G,gA,gB,hp,g1,g2,rfl,rfl⟩;cases Rd.lst_inj X gA;cases Rd.lst_inj Y gB;obtain⟨v1,e1,F⟩:=U.get' L;obtain⟨v2,e2,E⟩:=T.get' O;obtain rfl:v1=u:=MS (e1.symm.trans g1);obtain rfl:v2=G:=MS (e2.symm.trans g2);have Q:Ext Z S Z (upd S p (.tup [v1,v2])):=fO hp;exact⟨Q,gH rep2 hp,.tup aX (.cons (F.later rep2 Q) (.cons (E.later rep2 Q) .nil))⟩
 ·have s:min x.1.length y.1.length<=i:=by simpa using hlen
  refine⟨N,J,X,Y,?_⟩;rcases Nat.le_total x.1.length y.1.length with z|z
  ·exact .inl (by omega)
  ·exact .inr (by omega)
theorem zm{X:Cx}{x1}(u:X.mg "zip"=none)(z:SE X E a m)(q:SE X E b n)(o:Gl X "zip":=by rfl)
  (hs:ee [a,b] X.env=[(dV,hS a X.env),(dV,hS b X.env)]:=by rfl) (W:ee [b] X.env=[(dV,hS b X.env)]:=by rfl):
  SI X E (.Tuple elts x1 tp) (.Call (.Name "zip" p) [a,b] [] pos) (fun ρ=>do let ds<-(do let x<-m ρ;let xs<-(do let y<-n ρ;let ys<-aC [];aC (y::ys));aC (x::xs));C1 ds):=by
 intro pins s σ H R I h;have C:PI X (.Tuple elts x1 tp) (.Call (.Name "zip" p) [a,b] [] pos) (fun σ H R=>Lq X.K E (ae m (ae n ak)) σ H fun xs U=>(∃a b Z Y,xs=[.ref a,.ref b]/\Rd U a (.lst Z)/\Rd U b (.lst Y)/\R (E3 a b) U)\/
   (∃a b Z Y,xs=[.ref a,.ref b]/\U a=ar (.tup Z)/\U b=ar (.tup Y)/\
   R ⟨fun i H=>(Bx Z Y).go i H/\(H a=ar (.tup Z)/\H b=ar (.tup Y)),(Bx Z Y).yld,fun i H=>(Bx Z Y).stop i H/\(H a=ar (.tup Z)/\H b=ar (.tup Y))⟩ U)):=
  E4 o u (af z (af q ai (by rw[W];rfl)) (by rw[hs,W])) (by rw[hs,W]) (by rw[W];rfl)
 refine C pins s σ H R I ?_;obtain⟨ι,S,ρ,rep,re,c⟩:=h;refine⟨ι,S,ρ,rep,re,aD (aq c) fun ds j S1 U e1 rep1 T vs r=>?_⟩;unfold C1 at T;split at T
 ·next xs ys=>
  obtain⟨v1,ws,rfl,L,G⟩:=r.cons_inv;obtain⟨v2,N,rfl,O,J⟩:=G.cons_inv;cases J.nil_inv;obtain⟨F,Z,rfl,Q,v⟩:=L.tup_inv;obtain⟨B,Y,rfl,P,l⟩:=O.tup_inv;exact .inr ⟨F,B,Z,Y,rfl,Q,P,ao T .refl rep1 _ (yc rep1 Q P v l)⟩
 ·next a b _=>
  obtain⟨v1,ws,rfl,L,G⟩:=r.cons_inv;obtain⟨v2,N,rfl,O,J⟩:=G.cons_inv;cases J.nil_inv;obtain⟨F,x,Z,rfl,Q,A,w⟩:=C3 rep1 L T;obtain⟨B,y,Y,rfl,P,k,t⟩:=C3 rep1 O w;exact .inl ⟨F,B,Z,Y,rfl,Q,P,ao t .refl rep1 _ (wx A k)⟩
 ·exact(aj T).elim
abbrev wy(m n:TM):aP->M Iter:=fun ρ=>do let ds<-ae m (ae n ak) ρ;C1 ds
end S4
namespace S3
open PySem PySem.Spec PyProof.Rows L2 S4
def n4(f:Expr->Option D):List Expr->Option (List D)
 |[]=>ar []
 |e::es=>match f e,n4 f es with
  |some d,ar ds=>ar (d::ds)
  |_,_=>none
def litE:Nat->Expr->Option D
 |_,.Constant .none _ _=>ar .non
 |_,.Constant (.bool b) _ _=>ar (.bl b)
 |_,.Constant (.int i) _ _=>ar (.int i)
 |_,.Constant (.str x) _ _=>ar (.str x)
 |_,.UnaryOp .USub (.Constant (.int i) _ _) _=>ar (.int (-i))
 |n+1,.Tuple es _ _=>match n4 (litE n) es with
  |some ds=>if ds.length<=100 then ar (.tup ds)else none
  |none=>none
 |_,_=>none
section
variable {X:Cx}{E:XD}
theorem SE.mono{m Z:TM}(h:SE X E e m)(k:∀ ρ S r,Z ρ S=ar r->m ρ S=ar r):SE X E e Z:=PE.imp h fun σ H Q q=>by
 obtain⟨ι,S,ρ,rep,re,r,Y,e,c⟩:=q;exact⟨ι,S,ρ,rep,re,r,Y,k ρ S _ e,c⟩
theorem C4(h:litE n e=ar d)(es:List Expr)(env:Env):ee (e::es) env=(dV,hS e env)::ee es env:=by
 cases e with
 |Constant c j p=>exact ay
 |UnaryOp o a p=>exact qK
 |Tuple l k p=>exact bo
 |_=>cases n<;>cases h
theorem zo(Z:∀e d,litE n e=ar d->SE X E e (mK d)):∀{es:List Expr} {ds:List D},n4 (litE n) es=ar ds->SA X E es (fun _=>aC ds)
 |[],ds,h=>by cases h;exact ai
 | e::es,ds,h=>by
  unfold n4 at h;cases q:litE n e with
  |none=>rw[q]at h;cases h
  | some d=>
   rw[q]at h;cases q2:n4 (litE n) es with
   |none=>rw[q2]at h;cases h
   |some ds'=>
    rw[q2]at h;cases h;exact af (Z e d q) (zo Z q2) (C4 q _ _)
theorem HZ:∀(n:Nat) (e:Expr) (d:D),litE n e=ar d->SE X E e (mK d):=by
 intro n
 induction n with
 |zero=>
  intro e d h;unfold litE at h;split at h
  ·cases h;exact fU
  ·cases h;exact eS
  ·cases h;exact az
  ·cases h;exact qc
  ·cases h;exact yf
  ·next h'=>exact absurd h' (by omega)
  ·cases h
 | succ n ih=>
  intro e d h;unfold litE at h;split at h
  ·cases h;exact fU
  ·cases h;exact eS
  ·cases h;exact az
  ·cases h;exact qc
  ·cases h;exact yf
  ·next m es k p hm=>
   cases hm;cases q:n4 (litE n) es with
   |none=>rw[q]at h;cases h
   | some ds=>
    rw[q]at h;simp only at h;split at h
    ·next hl=>
     cases h;refine(dw (zo ih q)).mono fun ρ S r Z=>?_;have e:(do let ds'<-(aC ds:M (List D));bK ds')=(aC (.tup ds):M D):=by
      show bK ds=_;unfold bK;rw[if_pos (by unfold lim;omega)]
     rw[e];exact Z
    ·cases h
  ·cases h
theorem cH(n:Nat)(h:litE n e=ar d):SE X E e (mK d):=HZ n e d h
end
def aB(m:TM)(ms:By):By:=ae m ms
section
variable {X:Cx}{E:XD}
theorem aH(Z:SE X E e m)(Y:SA X E es ms)(hs:ee (e::es) X.env=(dV,hS e X.env)::ee es X.env):SA X E (e::es) (aB m ms):=af Z Y hs
theorem iw{l p t n}:la (.List l p) t n env=aC false:=rfl
theorem C5{l k p t n}:la (.Tuple l k p) t n env=aC false:=rfl
theorem ez{a o b p t n}:la (.BinOp a o b p) t n env=aC false:=rfl
theorem fw{f l k p t n}:la (.Call f l k p) t n env=aC false:=rfl
theorem iy{a b p t n}:la (.Subscript a b p) t n env=aC false:=rfl
theorem wz{a b p t n}:la (.Constant a b p) t n env=aC false:=rfl
theorem E6{a p t n}:la (.Name a p) t n env=aC false:=rfl
end
end S3
namespace S7
open PySem PySem.Spec PyProof.Rows L2 S3
theorem nu{a b p}:ee (.Attribute a b p::es) env=(dV,hS (.Attribute a b p) env)::ee es env:=rfl
abbrev Ia(m:TM):TM:=fun ρ=>pj (m ρ)
abbrev JV:TM:=fun _=>M.fail
abbrev dC(m:TM)(y:Str):TM:=fun ρ=>do let x<-m ρ;wm (fun n=>cW n y) x
abbrev C6(m:TM):TM:=fun ρ=>do let x<-m ρ;wm (fun _=>b_) x
abbrev Ib(x:Str)(ms:aP->M (List D)):cV:=fun ρ=>do let ds<-ms ρ;if ds.length<=lim then M.raise (.exc x [])else M.fail
end S7
namespace S3
open PySem PySem.Spec PyProof.Rows L2
mutual
def eU(n:Nat):D->Bool
 | .lst k=>decide (k<n)
 | .tup ds=>b8 n ds
 | .ro ds=>b8 n ds
 | .fz ds=>b8 n ds
 | .fn _ _ _ ds _=>b8 n ds
 | .exc _ ds=>b8 n ds
 | .non=>b_
 | .bl _=>b_
 | .int _=>b_
 | .str _=>b_
 | .emp=>b_
def b8(n:Nat):List D->Bool
 |[]=>b_
 |d::ds=>eU n d && b8 n ds
end
mutual
def jr(n:Nat)(g:Nat->Option (List D)):D->Option D
 | .lst k=>if k<n then ar (.lst k)else (g k).map .fz
 | .tup ds=>(gU n g ds).map .tup
 | .ro ds=>(gU n g ds).map .ro
 | .fz ds=>(gU n g ds).map .fz
 | .fn a c q ds vs=>(gU n g ds).map fun es=>.fn a c q es vs
 | .exc x ds=>(gU n g ds).map fun es=>.exc x es
 | .non=>ar .non
 | .bl b=>ar (.bl b)
 | .int i=>ar (.int i)
 | .str x=>ar (.str x)
 | .emp=>ar .emp
def gU(n:Nat)(g:Nat->Option (List D)):List D->Option (List D)
 |[]=>ar []
 |d::ds=>match jr n g d,gU n g ds with
  |some u,ar us=>ar (u::us)
  |_,_=>none
end
def xn(S:aF)(n:Nat):Nat->Nat->Option (List D)
 |0,_=>none
 |f+1,k=>(S[k]?).bind fun xs=>gU n (xn S n f) xs
def oG(S S':aF):Prop:=∀k xs,k<S.length->S'[k]? =ar xs->S[k]? =ar xs\/b8 S.length xs=b_
open Classical in
def iG(m:M D):M D:=fun S=>match m S with
 | some (.ok d,S')=>if S'.length<=S.length then ar (.ok d,S')else
   if oG S S' then (match jr S.length (xn S' S.length 60) d with
    |some u=>ar (.ok u,S'.take S.length)
    |none=>none)else none
 |r=>r
abbrev aM(m:TM):TM:=fun ρ=>iG (m ρ)
section
variable {K:d_}{ι ι':List dt}{H H':Hp}{S S':aF}
mutual
theorem RelD.cl:∀{d:D} {v:V},RelD K ι H d v->eU ι.length d=b_
 |_,_,.non=>rfl
 |_,_,.bl b=>rfl
 |_,_,.int i=>rfl
 |_,_,.str x=>rfl
 |_,_,.tup h hs=>by unfold eU;exact RelDs.cl hs
 |_,_,.lst h=>by unfold eU;exact MF (Mv.mp h).1
 |_,_,.ro h hs=>by unfold eU;exact RelDs.cl hs
 |_,_,.emp h=>rfl
 |_,_,.fn h hs=>by unfold eU;exact RelDs.cl hs
 |_,_,.exc n h=>rfl
 |_,_,.excF n h h2 hn hs=>by unfold eU;exact RelDs.cl hs
 |_,_,.fz h hs=>by unfold eU;exact RelDs.cl hs
theorem RelDs.cl:∀{ds:List D} {vs:List V},RelDs K ι H ds vs->b8 ι.length ds=b_
 |_,_,.nil=>rfl
 |_,_,.cons h hs=>by unfold b8;rw[RelD.cl h,RelDs.cl hs];rfl
end
def oH(P:List dt)(os:dt->Obj)(H:Hp):Hp:=fun b=>match H b with
 |some (.lst vs)=>if b∈P then ar (.frz (os b) (.lst vs))else ar (.lst vs)
 |x=>x
theorem C7{P:List dt}{os:dt->Obj}{b:dt}(h:H b=none):oH P os H b=none:=by unfold oH;rw[h]
theorem cf{P:List dt}{os:dt->Obj}{b:dt}{o:HO}(h:H b=ar o)(Z:∀vs,o≠ .lst vs):oH P os H b=ar o:=by
 unfold oH;rw[h];cases o with
 |lst vs=>exact absurd rfl (Z vs)
 |_=>rfl
theorem zq{P:List dt}{os:dt->Obj}{b:dt}(h:b∉P):oH P os H b=H b:=by
 unfold oH;split
 ·next q=>rw[if_neg h,q]
 ·rfl
theorem Ie{os:dt->Obj}(h:b∈P)(e:H b=ar (.lst vs)):oH P os H b=ar (.frz (os b) (.lst vs)):=by
 unfold oH;rw[e];exact if_pos h
theorem wA(Y:ι.Nodup)(h:ι[k]? =ar a):a∈ι.drop n↔n<=k:=by
 constructor
 ·intro hm;obtain⟨j,Z⟩:=Oz.mp hm;rw[PX]at Z;have:=qb Y h Z;omega
 ·intro X;refine Oz.mpr ⟨k - n,?_⟩;rw[PX,show n+(k - n)=k by omega];exact h
mutual
theorem RelD.down{n:Nat}{os:dt->Obj}:∀{d:D} {v:V},RelD K ι H d v->eU n d=b_->RelD K (ι.take n) (oH (ι.drop n) os H) d v
 |_,_,.non,_=>.non
 |_,_,.bl b,_=>.bl b
 |_,_,.int i,_=>.int i
 |_,_,.str x,_=>.str x
 |_,_,.tup h hs,c=>.tup (cf h (by intro _ z;cases z)) (RelDs.down hs (by unfold eU at c;exact c))
 |_,_,.lst h,c=>.lst (by unfold eU at c;rw[Ou,if_pos (Nm c)];exact h)
 |_,_,.ro h hs,c=>.ro (h.imp (fun⟨o,h⟩=>⟨o,cf h (by intro _ z;cases z)⟩) fun z=>z) (RelDs.down hs (by unfold eU at c;exact c))
 |_,_,.emp h,_=>.emp (cf h (by intro _ z;cases z))
 |_,_,.fn h hs,c=>.fn (cf h (by intro _ z;cases z)) (RelDs.down hs (by unfold eU at c;exact c))
 |_,_,.exc n h,_=>.exc n (cf h (by intro _ z;cases z))
 |_,_,.excF n h h2 hn hs,c=>.excF n (cf h (by intro _ z;cases z)) (cf h2 (by intro _ z;cases z)) hn (RelDs.down hs (by unfold eU at c;exact c))
 |_,_,.fz h hs,c=>.fz (cf h (by intro _ z;cases z)) (RelDs.down hs (by unfold eU at c;exact c))
theorem RelDs.down{n:Nat}{os:dt->Obj}:∀{ds:List D} {vs:List V},RelDs K ι H ds vs->b8 n ds=b_->RelDs K (ι.take n) (oH (ι.drop n) os H) ds vs
 |_,_,.nil,_=>.nil
 |_,_,.cons h hs,c=>by
  unfold b8 at c;rw[M5]at c;exact .cons (RelD.down h c.1) (RelDs.down hs c.2)
end
theorem jS{Y Z:Type}{f:Y->Z}{o:Option Y}{b:Z}(h:o.map f=ar b):∃a,o=ar a/\f a=b:=by
 cases o with
 |none=>cases h
 |some a=>exact⟨a,rfl,MS h⟩
theorem C8(h:gU n g (d::ds)=ar us):∃u us',us=u::us'/\jr n g d=ar u/\gU n g ds=ar us':=by
 unfold gU at h;split at h
 ·next u us' e1 e2=>cases h;exact⟨u,us',rfl,e1,e2⟩
 ·cases h
mutual
theorem yk{n:Nat}{os:dt->Obj}{g:Nat->Option (List D)}(Y:∀k us a,n<=k->g k=ar us->ι[k]? =ar a->∃vs,H a=ar (.lst vs)/\RelDs K (ι.take n) (oH (ι.drop n) os H) us vs)(Z:ι.Nodup):
  ∀{d:D} {v:V},RelD K ι H d v->∀{u:D},jr n g d=ar u->RelD K (ι.take n) (oH (ι.drop n) os H) u v
 |_,_,.non,u,e=>by unfold jr at e;cases e;exact .non
 |_,_,.bl b,u,e=>by unfold jr at e;cases e;exact .bl b
 |_,_,.int i,u,e=>by unfold jr at e;cases e;exact .int i
 |_,_,.str x,u,e=>by unfold jr at e;cases e;exact .str x
 |_,_,.tup h hs,u,e=>by
  unfold jr at e;obtain⟨es,e1,rfl⟩:=jS e;exact .tup (cf h (by intro _ z;cases z)) (jT Y Z hs e1)
 | _,_,@RelD.lst _ _ _ a k h,u,e=>by
  unfold jr at e;by_cases hk:k<n
  ·rw[if_pos hk]at e;cases e;exact .lst (by rw[Ou,if_pos hk];exact h)
  ·rw[if_neg hk]at e;obtain⟨us,e1,rfl⟩:=jS e;obtain⟨vs,U,X⟩:=Y k us a (by omega) e1 h
   exact .fz (Ie ((wA Z h).mpr (by omega)) U) X
 |_,_,.ro h hs,u,e=>by
  unfold jr at e;obtain⟨es,e1,rfl⟩:=jS e;exact .ro (h.imp (fun⟨o,h⟩=>⟨o,cf h (by intro _ z;cases z)⟩) fun z=>z) (jT Y Z hs e1)
 |_,_,.emp h,u,e=>by unfold jr at e;cases e;exact .emp (cf h (by intro _ z;cases z))
 |_,_,.fn h hs,u,e=>by
  unfold jr at e;obtain⟨es,e1,rfl⟩:=jS e;exact .fn (cf h (by intro _ z;cases z)) (jT Y Z hs e1)
 |_,_,.exc x h,u,e=>by
  unfold jr at e;obtain⟨es,e1,rfl⟩:=jS e;unfold gU at e1;cases e1;exact .exc x (cf h (by intro _ z;cases z))
 |_,_,.excF x h X hn hs,u,e=>by
  unfold jr at e;obtain⟨es,e1,rfl⟩:=jS e;exact .excF x (cf h (by intro _ z;cases z)) (cf X (by intro _ z;cases z)) hn (jT Y Z hs e1)
 |_,_,.fz h hs,u,e=>by
  unfold jr at e;obtain⟨es,e1,rfl⟩:=jS e;exact .fz (cf h (by intro _ z;cases z)) (jT Y Z hs e1)
theorem jT{n:Nat}{os:dt->Obj}{g:Nat->Option (List D)}(Y:∀k us a,n<=k->g k=ar us->ι[k]? =ar a->∃vs,H a=ar (.lst vs)/\RelDs K (ι.take n) (oH (ι.drop n) os H) us vs)(Z:ι.Nodup):
  ∀{ds:List D} {vs:List V},RelDs K ι H ds vs->∀{us:List D},gU n g ds=ar us->RelDs K (ι.take n) (oH (ι.drop n) os H) us vs
 |_,_,.nil,us,e=>by unfold gU at e;cases e;exact .nil
 |_,_,.cons h hs,us,e=>by
  obtain⟨u,X,rfl,e1,e2⟩:=C8 e;exact .cons (yk Y Z h e1) (jT Y Z hs e2)
end
theorem zv(Z:Rep K ι H S){n:Nat}{os:dt->Obj}:∀f k us a,n<=k->xn S n f k=ar us->ι[k]? =ar a->∃vs,H a=ar (.lst vs)/\RelDs K (ι.take n) (oH (ι.drop n) os H) us vs:=by
 intro f
 induction f with
 |zero=>intro k us a _ e;cases e
 | succ f ih=>
  intro k us a T e Y;unfold xn at e;cases z:S[k]? with
  |none=>rw[z]at e;cases e
  |some xs=>
   rw[z]at e;obtain⟨vs,X,U⟩:=Z.get k a xs Y z;exact⟨vs,X,jT (ih) Z.nd U e⟩
theorem wB(Y:Rep K ι H S)(x:Ext ι H ι' H')(Z:Rep K ι' H' S')(Q:oG S S')(os:dt->Obj):
  Ext ι H ι (oH (ι'.drop ι.length) os H')/\Rep K ι (oH (ι'.drop ι.length) os H') (S'.take ι.length):=by
 obtain⟨more,rfl⟩:=id x.ids;have P:(ι++more).take ι.length=ι:=by simp
 refine⟨⟨⟨[],by simp⟩,fun a o h n t=>?_⟩,⟨Y.nd,?_,fun k a xs e1 e2=>?_,Z.tab.mono fun a o h n=>cf h n⟩⟩
 ·obtain⟨U,T⟩:=x.oth a o h n t;rw[zq (fun z=>T (List.mem_of_mem_drop z))];exact⟨U,n⟩
 ·have:=Z.len;rw[NI, <-this,Mu];omega
 ·have R:k<ι.length:=(Mv.mp e1).1;rw[Ou,if_pos R]at e2;have X:(ι++more)[k]? =ar a:=by rw[MN R];exact e1
  obtain⟨vs,U,T⟩:=Z.get k a xs X e2;refine⟨vs,?_,?_⟩
  ·rw[zq (fun z=>by have:=(wA Z.nd X).mp z;omega)];exact U
  ·have N:b8 ι.length xs=true:=by
    rcases Q k xs (by rw[<-Y.len];exact R) e2 with z|z
    ·obtain⟨_,_,O⟩:=Y.get k a xs e1 z;exact O.cl
    ·rw[Y.len];exact z
   have:=RelDs.down (n:=ι.length) (os:=os) T N;rw[P]at this;exact this
end
section
variable {X:Cx}{E:XD}{e:Expr}{m:TM}{pins:List (dt×Obj)}{σ:L2.St}{H:Hp}{s:c_}
theorem Inv.fz(I:L2.Inv X pins σ H s)(P:List dt):∃os,L2.Inv X pins σ (oH P os H) s:=by
 refine⟨fun a=>(s.heap.get? a).getD {cls:=.none,data:=.fields #[]},?_⟩;have Z:Un X.fs [] H (oH P (fun a=>(s.heap.get? a).getD {cls:=.none,data:=.fields #[]}) H) s.heap s.heap:=
  ⟨fun b o q _ _ _=>q,fun b o q _ _ _=>⟨o.slots,q⟩,fun b o _ n _=>C7 n,fun b o q _=>⟨o,q⟩,fun b xs q=>cf q (by intro _ z;cases z),fun b o u q=>cf q (by intro _ z;cases z),fun b Y q=>⟨#[],by rw[cf q (by intro _ z;cases z)];simp⟩⟩
 refine I.un (t':=s.toks) Z fun b o q=>?_;have st:∀u,H b=ar u->bB X.prog X.w (oH P (fun a=>(s.heap.get? a).getD {cls:=.none,data:=.fields #[]}) H) s.heap b u:=fun u Z=>
  (I.hok b u Z).stay (fun _ _ _ z=>z) (fun c z=>cf z (by intro _ z;cases z)) fun c xs z=>cf z (by intro _ z;cases z)
 unfold oH at q;split at q
 ·next vs hb=>
  split at q
  ·cases q;obtain⟨z,its,n,r,e⟩:=(show bB X.prog X.w H s.heap b (.lst vs)from I.hok b _ hb);exact⟨by dsimp only;rw[e];rfl,z,its,n,r,e⟩
  ·cases q;exact st _ hb
 ·exact st _ q
theorem aE(h:SE X E e m):SE X E e (aM m):=by
 intro pins s σ H Q I N;obtain⟨ι,S,ρ,rep,re,r,O,G,k⟩:=N;have Z:iG (m ρ) S=ar (r,O):=G;unfold iG at Z;cases q:m ρ S with
 |none=>rw[q]at Z;cases Z
 | some p=>
  obtain⟨C,T⟩:=p;rw[q]at Z;cases C with
  |ex x=>
   cases Z;exact h pins s σ H Q I ⟨ι,S,ρ,rep,re,.ex x,_,q,k⟩
  | ok d=>
   dsimp only at Z;by_cases hl:T.length<=S.length
   ·rw[if_pos hl]at Z;cases Z;exact h pins s σ H Q I ⟨ι,S,ρ,rep,re,.ok d,_,q,k⟩
   ·rw [if_neg hl]at Z;by_cases hk:oG S T
    ·rw [if_pos hk]at Z;cases z:jr S.length (xn T S.length 60) d with
     |none=>rw[z]at Z;cases Z
     | some u=>
      rw[z]at Z;cases Z;refine eJ (h pins s σ H (fun v R=>∃P:List dt,∀os,Q v (oH P os R)) I ⟨ι,S,ρ,rep,re,.ok d,T,q,fun W R x Y v L=>?_⟩) fun uv s' ⟨v,R,I',L,P,hq⟩=>?_
      ·refine⟨W.drop ι.length,fun os=>?_⟩;obtain⟨F,rep2⟩:=wB rep x Y hk os;have U:Rep X.K ι (oH (W.drop ι.length) os R) (T.take S.length):=by rw[<-rep.len];exact rep2
       have N:W.take ι.length=ι:=by obtain⟨more,rfl⟩:=x.ids;simp
       have rel:RelD X.K ι (oH (W.drop ι.length) os R) u v:=by
        have:=yk (n:=ι.length) (os:=os) (fun k us a=>by rw[rep.len];exact zv Y 60 k us a) Y.nd L (by rw[rep.len];exact z)
        rw[N]at this;exact this
       exact k ι _ F U v rel
      ·obtain⟨os,J⟩:=Inv.fz I' P;exact⟨v,_,J,L,hq os⟩
    ·rw[if_neg hk]at Z;cases Z
end
end S3
namespace S4
open PySem PySem.Spec PyProof.Rows L2 S3
theorem Ig{A:hI}(T:A.handled=none)(X:t≠it)(items:Array a_):
  Draws prog w A it [it,t] items.size (fun i v=>items[i]? =ar v) (fun i h=>h.IsTupleIter it t i/\h.IsTuple t items) where
 live:=fun _ _ st=>let ⟨⟨o,ho,_⟩,_⟩:=st;⟨o,ho⟩
 frame:=fun _ _ _ st W=>⟨st.1.at fun o e=>W it (by simp) o e,let ⟨o,e,r⟩:=st.2;⟨o,W t (by simp) o e,r⟩⟩
 item:=fun i s Q E hi st U=>jQ st.1 st.2 (x:=items[i]) (by simp[hi]) fun h' Z Y=>U _ h' s.toks (by simp[hi]) ⟨Z,let ⟨o,e,r⟩:=st.2;⟨o,Y.extBut _ _ X e,r⟩⟩ Y
 done:=fun s Q E st S=>lp T st.1 st.2 (by simp) S
theorem Ih{A:hI}(T:A.handled=none)(X:t≠it)(items:Array a_):
  Draws prog w A it [it,t] items.size (fun i v=>items[i]? =ar v) (fun i h=>h.IsListIter it t i/\h.IsList t items) where
 live:=fun _ _ st=>let ⟨⟨o,ho,_⟩,_⟩:=st;⟨o,ho⟩
 frame:=fun _ _ _ st W=>⟨st.1.at fun o e=>W it (by simp) o e,let ⟨o,e,r⟩:=st.2;⟨o,W t (by simp) o e,r⟩⟩
 item:=fun i s Q E hi st U=>wpAny_nextOf_list_item st.1 st.2 (x:=items[i]) (by simp[hi]) fun h' Z Y=>U _ h' s.toks (by simp[hi]) ⟨Z,let ⟨o,e,r⟩:=st.2;⟨o,Y.extBut _ _ X e,r⟩⟩ Y
 done:=fun s Q E st S=>wpAny_nextOf_list_end T st.1 st.2 (by simp) S
def KD(rd:Hp->List V->Prop):It:=⟨fun i H=>∃va,rd H va/\i<va.length,fun i H x H'=>∃va p v,rd H va/\H p=none/\va[i]? =ar v/\x= .ref p/\H'=upd H p (.tup [.int i,v]),fun i H=>∃va,rd H va/\va.length<=i⟩
theorem tw{P:eM}{w:fg}{K:d_}{L:List Expr}{x1}{tp:Pos}{e it t:dt}(R:e≠it)(f:t≠e)(c1:t≠it){rd:Hp->List V->Prop}{sti:Nat->gd->Prop}{sq:Array a_->gd->Prop}
  (so:∀i h,sti i h->∃o,h.get? it=ar o/\∀v,o.data≠ .cell v) (sk:∀i h h',sti i h->(∀o,h.get? it=ar o->h'.get? it=ar o)->sti i h')
  (N:∀(X:Cx) pins s σ H U,X.prog=P->X.w=w->X.K=K->L2.Inv X pins σ H s->rd H U->∃its:List a_,bw U its/\sq its.toArray s.heap)
  (dr:∀(A:hI) (items:Array a_),A.handled=none->Draws P w A it [it,t] items.size (fun i v=>items[i]? =ar v) (fun i h=>sti i h/\sq items h))
  (dn:∀(A:hI) (items:Array a_) (i:Nat) (s:c_) (Q:a_->c_->Prop) (E:a_->c_->Prop),A.handled=none->sti i s.heap->sq items s.heap->items[i]? =none->
   (∀h' e,RF it s.heap h'->(∃o,h'.get? e=ar o/\o.cls= .type "StopIteration")->E (.ref e) {s with heap:=h'})->er (f_ P w) A (ip (.ref it)) Q E s):
  Turn P w K (.Tuple L x1 tp) (KD rd) [e,it] e (fun i h=>(∃old,IsEnum h e it i old)/\sti i h) where
 mem:=by simp
 obj:=fun i h st b Z=>by
  obtain⟨⟨old,he⟩,hs⟩:=st;simp only[f',fb,or_false]at Z;rcases Z with rfl|rfl
  ·exact⟨_,he,fun v z=>by cases z⟩
  ·exact so i h hs
 keep:=fun i h h' st k=>by
  obtain⟨⟨old,he⟩,hs⟩:=st;exact⟨⟨old,k e (by simp) _ he⟩,sk i h h' hs fun o q=>k it (by simp) o q⟩
 item:=by
  intro X m hw hK p i pins s σ H E I hf st hg;subst m hw hK;obtain⟨⟨old,he⟩,hs⟩:=st;obtain⟨U,y,ga⟩:=hg;obtain⟨its,C,a⟩:=N X pins s σ H U rfl rfl rfl I y;have hl:=C.length;obtain⟨u1,a5,u⟩:=C.get (Mt ga);have D:=dr X.A.in1 its.toArray (by show X.A.handled=none;exact I.ok.hd p)
  refine wpAny_pyNext_enum_itemD D he ⟨hs,a⟩ (by rw[MB];omega) R (by simp[R,kr f]) fun x h' B hx r j G hz hk=>?_
  have S:x=u1:=by
   have:its[i]? =ar x:=by simpa using hx
   rw[a5]at this;exact(MS this).symm
  subst S;have a0:H s.heap.objs.size=none:=I.hok.fresh (Ms _);have lt:∀{c o},s.heap.get? c=ar o->s.heap.objs.size≠c:=fun e=>NZ (Mx e);obtain⟨oi,l,_⟩:=so i _ hs;refine⟨_,rfl,wpAny_letOwnedTupleGo_enum r fun O J Y=>?_⟩;have kk:∀b o,b∉[e,it]->s.heap.get? b=ar o->O.get? b=ar o:=fun b o Z q=>by
   simp only[f',fb,or_false,not_or]at Z;exact Y.extBut _ _ Z.1 (hk b o Z.1 Z.2 q)
  have n:O.get? s.heap.objs.size=ar {cls:=.type "tuple",data:=.seq #[.int i B,x]}:=Y.extBut _ _ (lt he) G;have I2:L2.Inv X pins σ (upd H s.heap.objs.size (.tup [.int i,U[i]])) {s with heap:=O,toks:=B+1}:=uK (o:=.tup [.int i,U[i]]) I hf kk (Ms _) ⟨by show 2<=sizeLine;decide,[.int i B,x],.cons ⟨B,rfl⟩ (.cons u .nil),_,n,rfl,_,rfl⟩
  refine⟨.ref s.heap.objs.size,_,I2,rfl,⟨U,_,_,y,a0,Mt ga,rfl,rfl⟩,⟨⟨_,J⟩,sk _ _ _ j.1 fun o q=>(Y.2 it (kr R)).trans q⟩,fun b Z=>?_⟩;obtain⟨ob,ho,_⟩:∃ob,s.heap.get? b=ar ob/\True:=by
   simp only[f',fb,or_false]at Z;rcases Z with rfl|rfl
   ·exact⟨_,he,trivial⟩
   ·exact⟨_,l,trivial⟩
  rw[aK (MD (Mx ho))];exact(hf b Z).1
 done:=by
  intro X m hw hK p i pins s σ H E I hf st hg;subst m hw hK;obtain⟨⟨old,he⟩,hs⟩:=st;obtain⟨U,y,ga⟩:=hg;obtain⟨its,C,a⟩:=N X pins s σ H U rfl rfl rfl I y;have hl:=C.length;have G:s.TypeIs (.ref e) "enumerate":=⟨_,he,rfl⟩;unfold z7;refine Mo (OH (wpAny_callSpecial?_slot (name:=hY "__next__") G F.slot_enumerate_next
   (Ng F.slot_enumerate_next G F.entry_enumerate_next ?_ (F.args_enumerate_next_1 _))))
  show er _ _ (RG (.ref e) 2>>=_) _ _ _;refine Mo (Ni he rfl (x:=.ref it) rfl ?_);refine Mo (dn X.A.in1 its.toArray i s _ _ (by show X.A.handled=none;exact I.ok.hd p) hs a (by simp;omega) fun h' x d S=>?_)
  obtain⟨o,ho,g⟩:=S;refine Mo (Om (T:="StopIteration") (b:=b_) ⟨o,ho,g⟩ Pf ?_);exact Mr ⟨rfl,uJ (t':=s.toks) I hf fun b o Z q=>d b o (fun z=>Z (by simp[z])) q⟩
 self:=fun _ _ _ _ _ st h=>by
  obtain⟨⟨old,he⟩,_⟩:=st;exact Qi he h
theorem wC(l:dt)(items:Array a_):
  Meets (Builtin.«enumerate.__new__» ⟨[.type "enumerate",.ref l],[]⟩) (fun _ R s=>s.heap.IsTuple l items/\
   R (.ok (.ret (.ref (s.heap.push (Ea l)).objs.size)))
    {s with heap:=(s.heap.push (Ea l)).push {cls:=.type "enumerate",data:=.fields #[.none,.bool dV,.ref s.heap.objs.size,mv 0,.none,.none]}}):=
 .of_wp fun prog w A R s h=>by
  obtain⟨Q,g,d,T,os⟩:=s;obtain⟨W,h⟩:=h;have U:=sub_enumerate;have Y:Rr (RI ⟨Q,g,d,T,os⟩) l items:=W;obtain⟨⟨c,S,P,O⟩,Z,X,n,hd⟩:=W;replace X:c= .type "tuple":=X;replace hd:P= .seq items n:=hd;subst X hd
  wp_walk using Ob Z
  refine wpAny_stack_any fun st=>Mr ?_;split
  ·rename_i c _ _ _ _ _
   cases (c==t7 "enumerate")
   ·wp_walk using Ob Z,NU Y
    exact⟨_,rfl,h⟩
   ·wp_walk using Ob Z,NU Y
    exact⟨_,rfl,h⟩
  ·wp_walk using Ob Z,NU Y
   exact⟨_,rfl,h⟩
section
variable {prog:eM}{w:fg}{A:hI}{E:a_->c_->Prop}{s:c_}
theorem ym{Q:a_->c_->Prop}(Z:s.heap.IsTuple l items)
  (h:∀h',IsEnum h' (s.heap.objs.size+1) s.heap.objs.size 0 .none->h'.IsTupleIter s.heap.objs.size l 0->(∀b o,s.heap.get? b=ar o->h'.get? b=ar o)->Q (.ref (s.heap.objs.size+1)) {s with heap:=h'}):
  er (f_ prog w) A (call (.type "enumerate") [.ref l]) Q E s:=by
 refine callType_new F.called_enumerate (by decide) (F.typeCall_enumerate_1 _) (F.newCall_enumerate_1 _) (fun obj=>F.args_object_init_2 obj _) F.entry_enumerate_new (wC l items) ⟨Z,?_⟩
 have Y:(s.heap.push (Ea l)).objs.size=s.heap.objs.size+1:=NB ..;have g2:=Mz (s.heap.push (Ea l)) (o:={cls:=.type "enumerate",data:=.fields #[.none,.bool dV,.ref s.heap.objs.size,mv 0,.none,.none]}) rfl;have g1:((s.heap.push (Ea l)).push {cls:=.type "enumerate",data:=.fields #[.none,.bool dV,.ref s.heap.objs.size,mv 0,.none,.none]}).get? s.heap.objs.size=ar (Ea l):=Mp _ (Mz _ rfl);show _/\_;rw[Y]at g2⊢;exact⟨⟨_,g2,rfl⟩,h _ g2 ⟨_,g1,rfl,rfl⟩ fun b o q=>Mp _ (Mp _ q)⟩
end
theorem E7{X:Cx}{P:List Expr}{x1}{tp p pos:Pos}{e:Expr}{y:TA}(r:Gl X "enumerate")(w:X.mg "enumerate"=none)(x:PA X [e] y)(hs:ee [e] X.env=[(dV,hS e X.env)]:=by rfl):
  PI X (.Tuple P x1 tp) (.Call (.Name "enumerate" p) [e] [] pos) (fun σ H R=>y σ H fun xs Z=>(∃a Y,xs=[.ref a]/\Z a=ar (.tup Y)/\R (KD fun H B=>H a=ar (.tup B)) Z)\/
   (∃a Y,xs=[.ref a]/\Rd Z a (.lst Y)/\R (KD fun H B=>Rd H a (.lst B)) Z)):=by
 intro pins s σ H R I h;refine SU (lY I r w (show k8 "enumerate"=ar (.type "enumerate") by decide+kernel) (ND (eJ (x pos pins s σ H _ I h) fun us s1 ⟨vs,Z,I1,r1,q1⟩=>?_) hs (by rfl)) (by decide) (by decide))
 have fresh:∀c∈[s1.heap.objs.size+1,s1.heap.objs.size],s1.heap.objs.size<=c:=fun c W=>by
  simp only[f',fb,or_false]at W;omega
 rcases q1 with⟨a,Y,rfl,hA,q⟩|⟨a,Y,rfl,hA,q⟩
 ·obtain⟨u,rfl,N⟩:=vals1 r1;cases (show u=ey a from N);obtain⟨O,K,T,_⟩:=I1.tuple (.of hA);have a1:a<s1.heap.objs.size:=by obtain⟨_,e,_⟩:=T;exact Mx e
  refine ym T fun h' S hi C=>Qi S ?_;refine⟨s1.heap.objs.size+1,_,_,_,Z,rfl,I1.kept (t':=s1.toks) C,tw (e:=s1.heap.objs.size+1) (it:=s1.heap.objs.size) (t:=a) (QB _) (MD (Nz a1)) (MD a1) (sti:=fun i h=>h.IsTupleIter s1.heap.objs.size a i) (sq:=fun its h=>h.IsTuple a its)
   (fun i h ⟨o,e,c,d⟩=>⟨o,e,fun v z=>by rw[d]at z;cases z⟩) (fun i h h' st k=>st.at k) (fun X pins s σ H Y _ _ _ I J=>let ⟨its,rv,p,_⟩:=I.tuple (.of J);⟨its,rv,p⟩)
   (fun A items U=>Ig U (MD a1) items) (fun A items i s Q E U G L F k=>lp U G L F k),⟨⟨_,S⟩,hi⟩,fun c W=>I1.fpOk (fresh c W) (I1.hok.fresh (fresh c W)),q⟩
 ·obtain⟨u,rfl,N⟩:=vals1 r1;cases (show u=ey a from N);obtain⟨O,K,T,_⟩:=I1.list (.inl hA);have a1:a<s1.heap.objs.size:=by obtain⟨_,e,_⟩:=T.isList;exact Mx e
  refine call_enumerate_list T.isList fun h' S hi n C=>Qi S ?_;refine⟨s1.heap.objs.size+1,_,_,_,Z,rfl,I1.kept (t':=s1.toks) C,tw (e:=s1.heap.objs.size+1) (it:=s1.heap.objs.size) (t:=a) (QB _) (MD (Nz a1)) (MD a1) (sti:=fun i h=>h.IsListIter s1.heap.objs.size a i) (sq:=fun its h=>h.IsList a its)
   (fun i h ⟨o,e,c,d⟩=>⟨o,e,fun v z=>by rw[d]at z;cases z⟩) (fun i h h' st k=>st.at k) (fun X pins s σ H Y _ _ _ I J=>let ⟨its,rv,p,_⟩:=I.list (.inl J);⟨its,rv,p.isList⟩)
   (fun A items U=>Ih U (MD a1) items) (fun A items i s Q E U G L F k=>wpAny_nextOf_list_end U G L F k),⟨⟨_,S⟩,hi⟩,fun c W=>I1.fpOk (fresh c W) (I1.hok.fresh (fresh c W)),q⟩
def lQ(xs:List D):List D:=xs.zipIdx.map fun p=>.tup [.int p.2,p.1]
def Gb:D->M Iter
 | .tup xs=>aC ⟨lQ xs,.none⟩
 | .fz xs=>aC ⟨lQ xs,.none⟩
 |_=>M.fail
theorem C9{xs:List D}{i:Nat}{d:D}(h:(lQ xs)[i]? =ar d):∃x,xs[i]? =ar x/\d= .tup [.int i,x]:=by
 unfold lQ at h;rw[MO]at h;cases q:xs.zipIdx[i]? with
 |none=>rw[q]at h;cases h
 |some p=>
  rw[q]at h;cases h;rw[List.getElem?_zipIdx]at q;cases z:xs[i]? with
  |none=>rw[z]at q;cases q
  |some x=>rw[z]at q;cases q;exact⟨x,rfl,by simp⟩
theorem oJ{K:d_}{ι:List dt}{H:Hp}{xs:List D}{T:Hp->List V->Prop}(R:∀H Y vb,T H Y->T H vb->Y=vb)
  (U:∀Z X S2,ExtN ι H Z X->Rep K Z X S2->∃Y,T X Y/\RelDs K Z X xs Y):kF K ⟨lQ xs,.none⟩ (KD T) ι H:=by
 intro Z X S2 e rep2 ok i;obtain⟨Y,S,O⟩:=U Z X S2 e rep2;have L:=O.length;refine⟨fun d hd=>?_,fun hlen=>⟨Y,S,by unfold lQ at hlen;simp at hlen;omega⟩⟩
 obtain⟨x,Q,rfl⟩:=C9 hd;have J:=(Mv.mp Q).1;refine⟨⟨Y,S,by omega⟩,?_⟩
 rintro v H3 ⟨va',p,v1,gA,hp,g1,rfl,rfl⟩;cases R _ _ _ S gA;obtain⟨v2,e2,N⟩:=O.get' Q;obtain rfl:v2=v1:=MS (e2.symm.trans g1);have P:Ext Z X Z (upd X p (.tup [.int i,v2])):=fO hp;exact⟨P,gH rep2 hp,.tup aX (.cons (.int _) (.cons (N.later rep2 P) .nil))⟩
theorem E8{X:Cx}{E:XD}{Y:List Expr}{x1}{tp p pos:Pos}{a:Expr}{m:TM}(N:X.mg "enumerate"=none)(P:SE X E a m)(K:Gl X "enumerate":=by rfl)(hs:ee [a] X.env=[(dV,hS a X.env)]:=by rfl):
  SI X E (.Tuple Y x1 tp) (.Call (.Name "enumerate" p) [a] [] pos) (fun ρ=>do let x<-m ρ;Gb x):=by
 intro pins s σ H R I h;refine E7 K N (fN P ku hs) hs pins s σ H R I ?_;obtain⟨ι,S,ρ,rep,re,c⟩:=h;refine⟨ι,S,ρ,rep,re,aD (aq c) fun d J S1 G e1 rep1 T v r=>?_⟩;show(∃a Q,[v]=[V.ref a]/\_)\/_;cases d with
 |tup xs=>
  obtain⟨a,vs,rfl,Z,U⟩:=r.tup_inv;refine .inl ⟨a,vs,rfl,Z,ao T .refl rep1 _ (oJ (fun H Q O e1 e2=>by rw[e1]at e2;cases e2;rfl) fun W L S2 e rep2=>?_)⟩
  exact⟨vs,(e.oth _ _ Z (rep1.notIn Z (by intro _ z;cases z)) (by intro _ z;cases z) (by intro _ z;cases z)).1,U.laterN rep1 e⟩
 |fz xs=>
  obtain⟨a,o,vs,rfl,Z,U⟩:=r.fz_inv;refine .inr ⟨a,vs,rfl,.inr ⟨o,Z⟩,ao T .refl rep1 _ (oJ (fun H Q O e1 e2=>Rd.lst_inj e1 e2) fun W L S2 e rep2=>?_)⟩;exact⟨vs,.inr ⟨o,(e.oth _ _ Z (rep1.notIn Z (by intro _ z;cases z)) (by intro _ z;cases z) (by intro _ z;cases z)).1⟩,U.laterN rep1 e⟩
 |_=>exact(aj T).elim
abbrev Gc(m:TM):aP->M Iter:=fun ρ=>do let x<-m ρ;Gb x
end S4
namespace S3
open PySem PySem.Spec PyProof.Rows L2
section
variable {X:Cx}{E:XD}{a b e c o tg:Expr}{m n l:TM}{pos p2:Pos}{es:List Expr}{ms:aP->M (List D)}
end
end S3
section
namespace S3
open PySem PySem.Spec PyProof.Rows L2
section
variable {prog:eM}{w:fg}{A:hI}{R:Sx->c_->Prop}{s:c_}
end
section
variable {X:Cx}{pins:List (dt×Obj)}{σ:St}{H:Hp}{s:c_}
end
end S3
namespace S3
open PySem PySem.Spec PyProof.Rows L2
section
variable {X:Cx}{scope:Scope}{Nc:List Str}{js:List (Option Nat)}{pins:List (dt×Obj)}{σ:St}{H:Hp}{s:c_}
end
end S3
end
namespace S3
open PySem PySem.Spec PyProof.Rows L2
section
variable {K:d_}{p:dt}{Q:D->List dt->aF->Hp->Prop}
structure MkL(K:d_)(p:dt)(ι:List dt)(S:aF)(ρ:aP)(σ:St)(H:Hp)(xs:List D):Prop where
 rep:Rep K ι (gW H p) S
 re:RelE K ι (gW H p) ρ σ
 lst:∃vs,H p=ar (.lst vs)/\RelDs K ι (gW H p) xs vs
 out:p∉ι
section
variable {X:Cx}{scope:Scope}{Nc:List Str}{js:List (Option Nat)}{elt tg iter tg2 iter2:Expr}{ifs ifs2:List Expr}{pos:Pos}{mi mi2:aP->M Iter}{g g2:nO}{t t2:aP->M Bool}{m:TM}
end
end
end S3
namespace S7
open PySem PySem.Spec PyProof.Rows L2 S3
section
open Sem (wp)
section
variable {prog:eM}{w:fg}{A:hI}{E:a_->c_->Prop}{h:gd}{g:Array P_}{d:Drawn}{t:Nat}{os:QV}
variable {nm q:Str}{C N:dt}{bs bm bmB:List a_}{hdct:Bool}{sn:List Str}{sub:List a_}{ab:Bool}{col:Option Bool}{dd:Option dt}{k0 k1 k2 k3 k5:Option a_}{B Bn newId nid initId inN:String}{bmN:List a_}
theorem pk(L:x_ Bn newId inN bmN)(R:bmB.contains (.type Bn)=b_)(F:x_ B nid initId bmB)(T:RK h bmB bm){mN:Str->Option a_}{rest:List a_}{fI:dt}{oI:Obj}{Q:Fin->c_->Prop}
  (U:h.get? C=ar (wh nm q C N bs bm hdct sn sub ab col dd k0 k1 k2 k3 k5 newId)) (H:h.Ns N mN) (hi:mN "__init__"=ar (.ref fI)) (P:h.get? fI=ar oI) (K:oI.cls= .type "function")
  (z:∀h' e,QR h h' e (.ref C) rest->
   er (f_ prog w) A (call (.ref fI) (.ref e::rest)) (fun r s'=>r= .none/\Q (.done (.ret (.ref e))) s') E ⟨h',g,d,t,os⟩) (hrest:rest.length<=sizeLine:=by size_fits):
  er (f_ prog w) A (Builtin.«type.__call__» ⟨.ref C::rest,[]⟩) Q E ⟨h,g,d,t,os⟩:=by
 repeat (first|with_reducible refine OI U ?_ |with_reducible refine wpAny_madeBy_exc U ?_ |wp_step)
 refine codeAny_call_builtin_code (PY _ L.quiet) (wpAny_check_new_subU L R T U ?_);refine codeAny_exc_new_subU L R F T U ?_ hrest;show er _ _ _ _ _ _;have Z:=Mp {cls:=.ref C,data:=.fields #[.ref h.objs.size,.none,.none,.none,.bool dV,.none]}
  (Mp {cls:=.type "tuple",data:=.seq rest.toArray} U)
 have Y:=Mp {cls:=.ref C,data:=.fields #[.ref h.objs.size,.none,.none,.none,.bool dV,.none]}
  (Mp {cls:=.type "tuple",data:=.seq rest.toArray} P)
 have W:((h.push {cls:=.type "tuple",data:=.seq rest.toArray}).push {cls:=.ref C,data:=.fields #[.ref h.objs.size,.none,.none,.none,.bool dV,.none]}).Ns N mN:=
  let ⟨o,es,ep,e,r⟩:=H;⟨o,es,ep,Mp _ (Mp _ e),r⟩
 have X:((h.push {cls:=.type "tuple",data:=.seq rest.toArray}).push
   {cls:=.ref C,data:=.fields #[.ref h.objs.size,.none,.none,.none,.bool dV,.none]}).get? (h.objs.size+1)=ar
   {cls:=.ref C,data:=.fields #[.ref h.objs.size,.none,.none,.none,.bool dV,.none]}:=by heap_get
 have O:(ey C::bm).contains (.ref C)=true:=by simp
 have S:=T.keeps (h':=(h.push {cls:=.type "tuple",data:=.seq rest.toArray}).push {cls:=.ref C,data:=.fields #[.ref h.objs.size,.none,.none,.none,.bool dV,.none]})
  fun b o e=>Mp _ (Mp _ e)
 unfold Rf
 repeat (first|with_reducible refine OI X ?_ |(with_reducible refine wpAny_isSubtype_exc Z ?_;rw[O])|wp_step)
 show er _ _ (typeLookup (.ref C) _) _ _ _;refine wpAny_typeLookup_tail Z W S F.mroIs F.init.lookup ?_;rw[hi];refine Nd (Mo ?_);unfold bindSpecial;refine Mo (Ow (T:="function") ⟨_,Y,K⟩ ?_);rw[if_pos (by decide)]
 refine Mr (Mo (Nf (z _ (h.objs.size+1) ⟨fun b o G=>Mp _ (Mp _ G),Nu (Og _),h.objs.size,X,Nu (Ms _),?_⟩) (fun r s' J=>?_) fun _ _ x=>x))
 ·exact Mp _ (Heap.get?_push_at rfl rfl)
 ·obtain⟨rfl,I⟩:=J
  wp_walk
  exact I
theorem yo(U:x_ Bn newId inN bmN)(W:bmB.contains (.type Bn)=b_)(F:x_ B nid initId bmB)(T:RK h bmB bm){mN:Str->Option a_}{rest:List a_}{fI:dt}{oI:Obj}{Q:a_->c_->Prop}
  (Z:h.get? C=ar (wh nm q C N bs bm hdct sn sub ab col dd k0 k1 k2 k3 k5 newId)) (S:h.Ns N mN) (hi:mN "__init__"=ar (.ref fI)) (Y:h.get? fI=ar oI) (X:oI.cls= .type "function")
  (R:∀h' e,QR h h' e (.ref C) rest->
   er (f_ prog w) (A.under (.builtin "type.__call__" ⟨.ref C::rest,[]⟩)) (call (.ref fI) (.ref e::rest)) (fun r s'=>r= .none/\Q (.ref e) s') E ⟨h',g,d,t,os⟩) (hrest:rest.length<=sizeLine:=by size_fits):
  er (f_ prog w) A (call (.ref C) rest) Q E ⟨h,g,d,t,os⟩:=by
 have f1:=tc_lookup;have f2:=tc_bind (.ref C);have P:(⟨h,g,d,t,os⟩:c_).TypeIs (.ref C) "type":=⟨_,Z,rfl⟩;refine O8 (QG ?_);show er _ _ (callAny (.ref C) _) _ _ _
 repeat (any_goals (first|assumption|with_reducible refine OI Z ?_ |wp_step))
 refine⟨rfl,?_⟩;refine codeAny_call_builtin_at (PY _ (by decide+kernel)) entry_typeCall (wpAny_check_type_call_sub Z (pk (hrest:=hrest) U W F T Z S hi Y X fun h' e hm=>?_))
 exact R h' e hm
end
section
variable {M:Sj}{A:hI}{E:a_->c_->Prop}{env:Env}
variable {nm q:Str}{C N:dt}{bs bm:List a_}{hdct:Bool}{sn:List Str}{sub:List a_}{ab:Bool}{col:Option Bool}{dd:Option dt}{k0 k1 k2 k3 k5:Option a_}{newId:String}
theorem iN(Y:bm.contains (.type "BaseException")=b_)(T:A.handled=none)
  (h:er M A x (fun v Z=>∃e t od,v= .ref e/\Z.heap.get? C=ar (wh nm q C N bs bm hdct sn sub ab col dd k0 k1 k2 k3 k5 newId)/\Z.heap.get? e=ar {cls:=.ref C,dict:=od,data:=.fields #[.ref t,.none,.none,.none,.bool dV,.none]}/\E (.ref e) Z) E s):
  er M A (raiseStmt env (ar x) none) Q E s:=by
 have W:(ey C::bm).contains (.type "BaseException")=true:=by rw[List.contains_cons,Y,PZ]
 unfold raiseStmt;refine Mo (Nf h (fun v Z X=>?_) fun _ _ x=>x);obtain⟨e,t,od,rfl,U,he,S⟩:=X;obtain⟨P,g,d,R,os⟩:=Z
 repeat (first|with_reducible refine OI he ?_ |with_reducible refine OI U ?_ |(with_reducible refine wpAny_isSubtype_exc U ?_;rw[W])|wp_step)
 exact wpAny_raiseNew_none T S
end
section
variable {prog:eM}{w:fg}{A:hI}{E:a_->c_->Prop}{s:c_}{env:Env}
variable {nm q:Str}{C N:dt}{bs bm bmB:List a_}{hdct:Bool}{sn:List Str}{sub:List a_}{ab:Bool}{col:Option Bool}{dd:Option dt}{k0 k1 k2 k3 k5:Option a_}{B Bn newId nid initId inN:String}{bmN:List a_}
theorem wD(p:x_ Bn newId inN bmN)(H:bmB.contains (.type Bn)=b_)(F:x_ B nid initId bmB){mN:Str->Option a_}{x:Str}{y S pos:Pos}{args:List Expr}{fI:dt}{oI:Obj}{Q:Flow->c_->Prop}
  (W:bm.contains (.type "BaseException")=b_) (J:A.handled=none) (P:(pa S (ee args env)).any (·.1)=dV) (hi:mN "__init__"=ar (.ref fI)) (I:oI.cls= .type "function")
  (h :er (f_ prog w) A (hS (.Name x y) env) (fun f U=>f= .ref C/\er (f_ prog w) A (evalArgs (.ref C) b_ (pa S (ee args env)) [])
   (fun a Z=>a.kw=[]/\a.pos.length<=sizeLine/\Z.heap.get? C=ar (wh nm q C N bs bm hdct sn sub ab col dd k0 k1 k2 k3 k5 newId)/\Z.heap.Ns N mN/\RK Z.heap bmB bm/\Z.heap.get? fI=ar oI/\
    ∀h' e,QR Z.heap h' e (.ref C) a.pos->er (f_ prog w) (A.under (.builtin "type.__call__" ⟨.ref C::a.pos,[]⟩)) (call (.ref fI) (.ref e::a.pos)) (fun r s'=>r= .none/\
     ∃t od,s'.heap.get? C=ar (wh nm q C N bs bm hdct sn sub ab col dd k0 k1 k2 k3 k5 newId)/\s'.heap.get? e=ar {cls:=.ref C,dict:=od,data:=.fields #[.ref t,.none,.none,.none,.bool dV,.none]}/\E (.ref e) s') E {Z with heap:=h'}) E U) E s):
  er (f_ prog w) A (exec (.Raise (ar (.Call (.Name x y) args [] S)) none pos) env) Q E s:=by
 rw[arm_exec_Raise];first
  |refine Mo (NN (iN (C:=C) (nm:=nm) (q:=q) (N:=N) (bs:=bs) (bm:=bm) (hdct:=hdct) (sn:=sn) (sub:=sub) (ab:=ab) (col:=col) (dd:=dd) (k0:=k0) (k1:=k1) (k2:=k2) (k3:=k3) (k5:=k5) (newId:=newId) W J (Mo (Nf (Qj (Nf h (fun f U Y=>?_) fun _ _ x=>x)) (fun v O X=>Mo (NN (Mr X))) fun _ _ x=>x))))
  |(simp only[evalOpt,Option.map];refine Mo (NN (iN (C:=C) (nm:=nm) (q:=q) (N:=N) (bs:=bs) (bm:=bm) (hdct:=hdct) (sn:=sn) (sub:=sub) (ab:=ab) (col:=col) (dd:=dd) (k0:=k0) (k1:=k1) (k2:=k2) (k3:=k3) (k5:=k5) (newId:=newId) W J (Mo (Nf (Qj (Nf h (fun f U Y=>?_) fun _ _ x=>x)) (fun v O X=>Mo (NN (Mr X))) fun _ _ x=>x)))))
  |(refine Mo (NN (iN (C:=C) (nm:=nm) (q:=q) (N:=N) (bs:=bs) (bm:=bm) (hdct:=hdct) (sn:=sn) (sub:=sub) (ab:=ab) (col:=col) (dd:=dd) (k0:=k0) (k1:=k1) (k2:=k2) (k3:=k3) (k5:=k5) (newId:=newId) W J ?_));refine Mo (Nf (Qj (Nf h (fun f U Y=>?_) fun _ _ x=>x)) (fun v O X=>Mo (NN (Mr X))) fun _ _ x=>x))
 obtain⟨rfl,Y⟩:=Y;unfold callWith;refine Mo (Nd (Nf Y (fun a Z R=>Mo (NN ?_)) fun _ _ x=>x));obtain⟨apos,L⟩:=a;obtain⟨G,hlen,u,m,T,K,R⟩:=R;obtain rfl:L=[]:=G;obtain⟨j,g,d,k,os⟩:=Z;simp only[P];refine Mo (wpAny_keeperOf_exc u ?_);refine Mo (yo (hrest:=hlen) p H F T u m hi K I fun h' e hm=>Nf (R h' e hm) (fun r s' z=>⟨z.1,Mo (Nd (wpAny_point (Mr ?_)))⟩) fun _ _ x=>x);obtain⟨_,t,od,n,o,l⟩:=z;exact⟨e,t,od,rfl,n,o,l⟩
end
end
end S7
namespace S7
open PySem PySem.Spec PySem.W PyProof.Rows
section
open Builtin Builtin.ObjectAttr
def wF:List a_->Bool
 | .ref _:: .ref _::r=>r==[.type "ValueError",.type "Exception",.type "BaseException",.type "object"]
 |_=>dV
theorem A7(e:wF l=b_):∃a b,l= .ref a:: .ref b::[.type "ValueError",.type "Exception",.type "BaseException",.type "object"]:=by
 unfold wF at e;split at e
 ·next a b r=>exact⟨a,b,by rw[QU.mp e]⟩
 ·cases e
theorem Da(Z:a_)(e:wF l=b_):refuseLoop Z "__setattr__" l=aC ():=by
 obtain⟨a,b,rfl⟩:=A7 e;rw[refuseLoop_ref,refuseLoop_ref];exact PySem.F.store_ValueError.passes Z
structure ExcS(K:SV)(C:dt):Prop where
 sa:yn K (.ref C) "__setattr__"=ar (ar (.builtin "object.__setattr__"))
 ob:R9 K C (.type "object")=ar b_
 cd:∃cd,SR K C=ar cd/\cd.hasDict=b_/\wF cd.mro=b_
section
variable {prog:eM}{w:fg}{A:hI}{E:a_->c_->Prop}{s:c_}{K:SV}{x C:dt}{o:Obj}{vs:Array a_}{mA:Str->Option a_}{name:Str}{v:a_}{R:Sx->c_->Prop}
theorem Dc{Q:Fin->c_->Prop}(c:ExcS K C)(X:K.In s.heap)(O:s.heap.get? x=ar o)(p:o.cls= .ref C)(J:o.data= .fields vs)
  (m:(o.dict=none/\∀n,mA n=none)\/∃d,o.dict=ar d/\d≠x/\s.heap.Ns1 d mA)
  (l:∀h' tk' dx,h'.Ns1 dx (fun y=>if y=name then ar v else mA y)->dx≠x->h'.get? x=ar {o with dict:=ar dx}->(o.dict=ar dx\/(o.dict=none/\s.heap.get? dx=none))->
   (∀b o,b≠x->b≠dx->s.heap.get? b=ar o->h'.get? b=ar o)->Q (.done (.ret .none)) {s with heap:=h',toks:=tk'}) (k:Within mA ns:=by within_ways) (a:ns.length<=sizeLine:=by size_fits):
  er (f_ prog w) A (storeInOwnDict (.ref x) (.ref C) (.str name tk) name v b) Q E s:=by
 obtain⟨cd,H,q,_⟩:=c.cd;obtain⟨h,g,d,t,os⟩:=s;obtain⟨oc,od,a5,F⟩:=o;dsimp only at O p J m;subst p J;unfold storeInOwnDict;refine Mo (Mr ?_);show er _ _ (ownDictForStores (.ref x)>>=_) _ _ _;unfold ownDictForStores instanceDict;refine Mo (Mo (wpAny_loadPart O (Mo ((looks_clsIn X H).here ?_))));rw[q];simp only[pz,fc,if_false];rcases m with⟨hdn,hmA⟩|⟨dx,hdx,hne,hns⟩
 ·have L:od=none:=hdn;subst L;simp only[typeHasDict,pz,Bool.or_self,fc,if_false];have Z:(h.push {cls:=.type "dict",data:=.dict #[]}).get? x=ar ⟨.ref C,none,.fields vs,F⟩:=Mp _ O;have U:x≠h.objs.size:=MD (Mx O);refine Mo (wpAny_alloc' ?_);refine Mo (wpAny_update' Z ?_);refine Mr ?_;have I:((h.push {cls:=.type "dict",data:=.dict #[]}).update x fun o=>{cls:=o.cls,dict:=ar h.objs.size,data:=o.data,slots:=o.slots}).get? h.objs.size
    =ar {cls:=.type "dict",data:=.dict #[]}:=
   (Oi _ _ _ _ U.symm).trans (Heap.get?_push_at rfl rfl)
  have r:((h.push {cls:=.type "dict",data:=.dict #[]}).update x fun o=>{cls:=o.cls,dict:=ar h.objs.size,data:=o.data,slots:=o.slots}).Ns h.objs.size (fun _=>none):=
   ⟨_, #[],_,I,rfl,fun e he=>absurd he (by simp),fun _=>rfl⟩
  show er _ _ (storeInDict h.objs.size (.str name tk) name v) _ _ _;unfold storeInDict newKeyGuard;refine Mo (Mr (Mo (wpAny_nsSet1 (Heap.Ns1.of_empty r) fun h' Y hs=>?_)));obtain⟨f,u,z,T,W,S⟩:=Y.count (QJ name v R1);refine Mo (wpAny_lookBehind T (by rw[W];exact pastItsLine_dict (ME S (by rw[MW,z_,Nq];omega))) ?_)
  wp_walk
  refine l h' _ h.objs.size ?_ U.symm ?_ (.inr ⟨rfl,Nu (Ms _)⟩) (fun b ob B P G=>?_)
  ·obtain⟨j,es,ep,e1,e2,i,eu,e4⟩:=Y;exact⟨j,es,ep,e1,e2,i,eu,fun y=>by rw[e4 y];by_cases hy:y=name<;>simp[hy,hmA]⟩
  ·exact(hs.2 x U).trans (Np _ Z rfl)
  ·exact(hs.2 b P).trans ((Oi _ _ _ _ B).trans (Mp _ G))
 ·have N:od=ar dx:=hdx;subst N;refine Mr ?_;show er _ _ (storeInDict dx (.str name tk) name v) _ _ _;unfold storeInDict newKeyGuard;refine Mo (Mr (Mo (wpAny_nsSet1 hns fun h' Y hs=>?_)));obtain⟨f,u,z,T,W,S⟩:=Y.count (QJ name v k);refine Mo (wpAny_lookBehind T (by rw[W];exact pastItsLine_dict (ME S (by rw[MW];omega))) ?_)
  wp_walk
  exact l h' _ dx Y hne ((hs.2 x hne.symm).trans O) (.inl rfl) (fun b ob _ P G=>(hs.2 b P).trans G)
theorem oK{Q:Unit->c_->Prop}(c:ExcS K C)(X:K.In s.heap)(S:s.heap.get? x=ar o)(N:o.cls= .ref C)(W:o.data= .fields vs)(G:yn K (.ref C) name=ar none)
  (J:(o.dict=none/\∀n,mA n=none)\/∃d,o.dict=ar d/\d≠x/\s.heap.Ns1 d mA)
  (u:∀h' Y Z,h'.Ns1 Z (fun y=>if y=name then ar v else mA y)->Z≠x->h'.get? x=ar {o with dict:=ar Z}->(o.dict=ar Z\/(o.dict=none/\s.heap.get? Z=none))->
   (∀b o,b≠x->b≠Z->s.heap.get? b=ar o->h'.get? b=ar o)->Q () {s with heap:=h',toks:=Y}) (H:Within mA ns:=by within_ways) (P:ns.length<=sizeLine:=by size_fits):
  er (f_ prog w) A (setAttr (.ref x) name v) Q E s:=by
 obtain⟨cd,O,t,L⟩:=c.cd;have T:notCls o=true:=by unfold notCls;rw[W]
 have I:∃od,InstAt s.heap x o C od:=by
  rcases J with⟨hdn,_⟩|⟨Z,hdx,_,⟨od,es,ep,e1,_⟩⟩
  ·exact⟨none,S,N,T,by rw[hdn];trivial⟩
  ·exact⟨ar od,S,N,T,by rw[hdx];exact e1⟩
 obtain⟨od,I⟩:=I;refine set_plain X I c.sa ?_;have U:=PySem.F.store_object;have sub:Looks (f_ prog w) s.heap (Rf (.ref x) (.type "object")) true:=I.type.andThen (looks_mroIn X c.ob);refine Pw U.slot.plain U.entry (@check_slot (f_ prog w) _ _ {s with toks:=s.toks+1} "object.__setattr__" "object" "__setattr__" (.ref x) [.str name s.toks,v] [] _ U.kind U.split sub (U.args (.ref x) (.str name s.toks) v) ?_);have hm:Looks (f_ prog w) s.heap (mroOf (.ref C)) cd.mro:=(looks_clsIn X O).andThen .now;rw[osa_eq,refuse_eq];refine Mo (Mo (I.type _ _ _ _ (fun _ _ e=>e) (Mo (hm _ _ _ _ (fun _ _ e=>e) ?_))));rw[Da _ L];refine Mr (Mo (I.type _ _ _ _ (fun _ _ e=>e) (Mo (Rt X G _ _ _ _ (fun _ _ e=>e) (Mo (Mr ?_))))));exact Dc (s:={s with toks:=s.toks+1}) c X S N W J (fun h' Y Z a1 a2 B z a5=>u h' Y Z a1 a2 B z a5) H P
end
end
end S7
namespace S7
open PySem PySem.Spec PyProof.Rows L2 S3
def g0(C a t:dt)(od:Option dt):gd->Prop:=fun h=>h.get? a=ar {cls:=.ref C,dict:=od,data:=.fields #[.ref t,.none,.none,.none,.bool dV,.none]}
def i8(dx:dt)(fs:List (Str×V)):gd->Prop:=fun h=>∃mA,h.Ns1 dx mA/\(∀f,tU (fs.lookup f) (mA f))/\PySem.Within mA (fs.map (·.1))
theorem A8{Z:gd}(p:g0 C a t od h1)(k:∀o,h1.get? a=ar o->Z.get? a=ar o):g0 C a t od Z:=k _ p
theorem A9{Z:gd}(p:i8 dx fs h1)(k:∀o,h1.get? dx=ar o->Z.get? dx=ar o):i8 dx fs Z:=by
 obtain⟨mA,⟨o,es,ep,e,r⟩,q⟩:=p;exact⟨mA,⟨o,es,ep,k _ e,r⟩,q⟩
theorem Dd(p:g0 C a t od h):bB P w H h a (.ext (g0 C a t od)):=⟨p,⟨_,p⟩,fun _ _ q k=>A8 q k⟩
theorem Gd(p:i8 dx fs h):bB P w H h dx (.ext (i8 dx fs)):=⟨p,(let ⟨_,⟨o,_,_,e,_⟩,_⟩:=p;⟨o,e⟩),fun _ _ q k=>A9 q k⟩
section
variable {X:Cx}{pins:List (dt×Obj)}{σ:L2.St}{H:Hp}{s:c_}{h':gd}{t':Nat}
theorem Inv.laidG(I:L2.Inv X pins σ H s)(k:∀b u,s.heap.get? b=ar u->h'.get? b=ar u)(W:s.heap.get? a=none)(Y:bB X.prog X.w (upd H a o) h' a o):L2.Inv X pins σ (upd H a o) {s with heap:=h',toks:=t'}:=by
 have Z:H a=none:=gG.gone I.hok W;have ne:∀b u,s.heap.get? b=ar u->b≠a:=fun b u q=>ir q W;refine I.un (t':=t') ⟨fun b u q _ _ _=>k b u q,fun b u q _ _ _=>⟨u.slots,k b u q⟩,fun b u q n _=>by rw[aK (ne b u q)];exact n,fun b u q _=>⟨u,k b u q⟩,fun b xs q=>by rw[aK (aR q Z)];exact q,fun b u xs q=>by rw[aK (aR q Z)];exact q,fun b U q=>⟨#[],by rw[aK (aR q Z),q];simp⟩⟩ fun b u e=>?_
 by_cases hb:b=a
 ·subst hb;rw[aX]at e;cases e;exact Y
 ·rw[aK hb]at e;exact(I.hok b u e).stay (fun c v _ q=>k c v q) (fun c q=>by rw[aK (aR q Z)];exact q) fun c xs q=>by rw[aK (aR q Z)];exact q
theorem Inv.write2(I:L2.Inv X pins σ H s)(R:H a=ar (.ext φ))(Z:(∃ ψ,H b=ar (.ext ψ))\/s.heap.get? b=none)(k:∀c v,c≠a->c≠b->s.heap.get? c=ar v->h'.get? c=ar v)(T:∃v,h'.get? a=ar v)(S:∃v,h'.get? b=ar v)
  (Q:b≠a) (O:∀H',bB X.prog X.w H' h' a o) (P:∀H',bB X.prog X.w H' h' b u):L2.Inv X pins σ (upd (upd H b u) a o) {s with heap:=h',toks:=t'}:=by
 have U:∀c v,H c=ar v->(∀ ψ,v≠ .ext ψ)->c≠a/\c≠b:=fun c v e n=>by
  refine⟨fun z=>?_,fun z=>?_⟩
  ·subst z;rw[R]at e;cases e;exact n _ rfl
  ·subst z;rcases Z with⟨ψ,Z⟩|Z
   ·rw[Z]at e;cases e;exact n _ rfl
   ·rw[gG.gone I.hok Z]at e;cases e
 have free:∀c v,s.heap.get? c=ar v->H c=none->c≠a/\c≠b:=fun c v q n=>by
  refine⟨fun z=>?_,fun z=>?_⟩
  ·subst z;rw[R]at n;cases n
  ·subst z;rcases Z with⟨ψ,Z⟩|Z
   ·rw[Z]at n;cases n
   ·rw[Z]at q;cases q
 have up:∀c v,H c=ar v->(∀ ψ,v≠ .ext ψ)->upd (upd H b u) a o c=ar v:=fun c v e n=>by
  obtain⟨Y,W⟩:=U c v e n;rw[aK Y,aK W];exact e
 refine I.un (t':=t') ⟨fun c v q n _ _=>k c v (free c v q n).1 (free c v q n).2 q,fun c v q n _ _=>⟨v.slots,k c v (free c v q n).1 (free c v q n).2 q⟩,fun c v q n _=>by rw[aK (free c v q n).1,aK (free c v q n).2];exact n,fun c v q _=>?_,fun c xs q=>up c _ q (by intro _ z;cases z),fun c w xs q=>up c _ q (by intro _ z;cases z),fun c N q=>⟨#[],by rw[up c _ q (by intro _ z;cases z)];simp⟩⟩ fun c v e=>?_
 ·by_cases Y:c=a
  ·subst Y;exact T
  ·by_cases W:c=b
   ·subst W;exact S
   ·exact⟨v,k c v Y W q⟩
 ·by_cases Y:c=a
  ·subst Y;rw[aX]at e;cases e;exact O _
  ·rw[aK Y]at e;by_cases W:c=b
   ·subst W;rw[aX]at e;cases e;exact P _
   ·rw[aK W]at e;have own:∀d,H d=ar (.own c)->d≠a/\d≠b:=fun d q=>U d _ q (by intro _ z;cases z)
    refine(I.hok c v e).stay (fun d w hd q=>?_) (fun d q=>up d _ q (by intro _ z;cases z)) fun d xs q=>up d _ q (by intro _ z;cases z)
    rcases hd with rfl|hd
    ·exact k _ w Y W q
    ·exact k d w (own d hd).1 (own d hd).2 q
end
section
variable {X:Cx}{o value:Expr}{ta tv:TE}{f:Str}{pos pos':Pos}
def JW(K:d_)(ta tv:TE)(f:Str):TS:=fun D σ H=>tv σ H fun y H1=>ta σ H1 fun x H2=>∃p C t,x= .ref p/\ExcS K C/\D' K (.ref C) f=ar none/\
  ((H2 p=ar (.ext (g0 C p t none))/\∀dx,H2 dx=none->dx≠p->D.nx σ (upd (upd H2 dx (.ext (i8 dx [(f,y)]))) p (.ext (g0 C p t (ar dx)))))\/
   (∃dx fs,H2 p=ar (.ext (g0 C p t (ar dx)))/\H2 dx=ar (.ext (i8 dx fs))/\dx≠p/\fs.lookup f=none/\fs.length<=100/\D.nx σ (upd (upd H2 dx (.ext (i8 dx (fs++[(f,y)])))) p (.ext (g0 C p t (ar dx))))))
theorem oM{Y:Type}{g f:Str}{y:Y}:∀{fs:List (Str×Y)},fs.lookup f=none->(fs++[(f,y)]).lookup g=if g=f then ar y else fs.lookup g
 |[],_=>by
  show(match g==f with|true=>ar y|false=>none)=_
  by_cases h:g=f
  ·subst h;simp
  ·rw[if_neg h,PL h];rfl
 | (a,b)::r,h=>by
  rw[M6]at h;by_cases hf:f=a
  ·subst hf;simp at h
  ·rw[PL hf]at h;rw[L0,M6,M6,oM (fs:=r) h];by_cases hg:g=a
   ·subst hg;have Z:¬ g=f:=fun z=>hf z.symm;simp[Z]
   ·rw[PL hg]
theorem zw(r:PE X o ta)(m:PE X value tv)(hs:la value (ar (.Attribute o f pos')) pos.line X.env=aC dV):PS X (.Assign [.Attribute o f pos'] value pos) (JW X.K ta tv f):=by
 intro pins s σ H D I h;refine plainObj_wpAny_Assign_Attribute (eJ (m pins s σ H _ I h) fun u s1 ⟨y,H1,I1,ry,q⟩=>eJ (r pins s1 σ H1 _ I1 q) fun l s2 ⟨x,H2,I2,rx,p,C,t,ex,c,hf,q2⟩=>?_) hs;subst ex;obtain rfl:l=ey p:=rx;rcases q2 with⟨hp,q⟩|⟨Z,fs,hp,hd,W,hl,hlen,q⟩
 ·have O:s2.heap.get? p=ar {cls:=.ref C,dict:=none,data:=.fields #[.ref t,.none,.none,.none,.bool dV,.none]}:=(I2.hok p _ hp).1;refine oK (mA:=fun _=>none) (ns:=[]) c I2.kIn O rfl rfl hf (.inl ⟨rfl,fun _=>rfl⟩) (fun h' T Z S W Y U A=>?_) R1 (by simp)
  rcases U with U|⟨_,hnew⟩
  ·cases U
  have F:g0 C p t (ar Z) h':=Y;have Q:i8 Z [(f,y)] h':=⟨_,S,fun g=>by
   show tU (match g==f with|true=>ar y|false=>none) _
   by_cases hg:g=f
   ·subst hg;simp;exact ry
   ·rw[PL hg,if_neg hg];exact trivial,QJ f u R1⟩
  obtain⟨G,⟨od,es,ep,e1,_⟩,_⟩:=id Q;have E:=Inv.write2 (t':=T) (a:=p) (b:=Z) (o:=.ext (g0 C p t (ar Z))) (u:=.ext (i8 Z [(f,y)])) I2 hp (.inr hnew) (fun c v B J q=>A c v B J q) ⟨_,Y⟩ ⟨_,e1⟩ W (fun _=>Dd F) (fun _=>Gd Q);exact⟨σ,_,E,q Z (gG.gone I2.hok hnew) W⟩
 ·have O:s2.heap.get? p=ar {cls:=.ref C,dict:=ar Z,data:=.fields #[.ref t,.none,.none,.none,.bool dV,.none]}:=(I2.hok p _ hp).1;obtain⟨mA,R,P,hw⟩:=(I2.hok Z _ hd).1;refine oK (mA:=mA) (ns:=fs.map (·.1)) c I2.kIn O rfl rfl hf (.inr ⟨Z,rfl,W,R⟩) (fun h' T N S w Y U A=>?_) hw (by rw[Mq,Nq];omega)
  have L:Z=N:=by
   rcases U with U|⟨U,_⟩
   ·exact MS U
   ·cases U
  subst L;have F:g0 C p t (ar Z) h':=Y;have Q:i8 Z (fs++[(f,y)]) h':=⟨_,S,fun g=>by
   rw[oM hl];by_cases hg:g=f
   ·subst hg;simp;exact ry
   ·rw[if_neg hg,if_neg hg];exact P g,by
   have:=QJ f u hw;intro z n;have:=this z n;simp only[List.map_append,G4,Rg,M_,f',fb,or_false]at this⊢;exact this.symm⟩
  obtain⟨G,⟨od,es,ep,e1,_⟩,_⟩:=id Q;have E:=Inv.write2 (t':=T) (a:=p) (b:=Z) (o:=.ext (g0 C p t (ar Z))) (u:=.ext (i8 Z (fs++[(f,y)]))) I2 hp (.inl ⟨_,hd⟩) (fun c v B J q=>A c v B J q) ⟨_,Y⟩ ⟨_,e1⟩ W (fun _=>Dd F) (fun _=>Gd Q);exact⟨σ,_,E,q⟩
end
end S7
section
namespace S7
open PySem PySem.Spec PyProof.Rows L2 S3
theorem E9{K:d_}{Z:Str->Option a_}(X:K.In h)(G:h.Ns N Z)(e:p_ K N n=ar (ar v)):Z n=ar v:=by
 obtain⟨o,es,ep,Y,hd,_,hf⟩:=G;unfold p_ at e;split at e
 ·rename_i c d es' n' sl q
  have:=X _ _ q;rw[Y]at this;cases this;cases hd;split at e
  ·rename_i en he
   cases e;rw[<-hf];unfold nsFind findBy;rw[<-PQ,he];rfl
  ·split at e<;>cases e
 ·cases e
def lA(K:d_)(C f:dt):Bool:=match K.lookup C with
 |some ⟨.type "type",_,.cls cd,sl⟩=>(match cd.mro,sl.toList with
  | .ref C'::bm,[_,_,_,_,ar (.builtin n),_]=>C'==C && n=="ValueError.__new__" && !cd.hasDel && W.tailIn K IS bm && W.nsOkIn K cd.ns && p_ K cd.ns "__init__"==ar (ar (.ref f)) && cd.hasDict && wF cd.mro
  |_,_=>dV) && (D' K (.ref C) "__setattr__"==ar (ar (.builtin "object.__setattr__"))) && (match K.lookup f with|some o=>o.cls== .type "function"|none=>dV)
 |_=>dV
theorem tx{K:d_}(X:K.In h)(c:ExcC K C)(q:lA K C f=b_):ExcS K C/\(∃o,K.lookup f=ar o/\o.cls= .type "function")/\∃bm N nm qn bs hdct sn sub ab col dd k0 k1 k2 k3 k5 mN,
  h.get? C=ar (wh nm qn C N bs bm hdct sn sub ab col dd k0 k1 k2 k3 k5 "ValueError.__new__")/\h.Ns N mN/\mN "__init__"=ar (.ref f)/\RK h IS bm:=by
 unfold lA at q;split at q
 case h_2=>cases q
 case h_1 dd cd P ho=>
 simp only[i_,beq_iff_eq]at q;obtain⟨⟨q,T⟩,Y⟩:=q;split at q
 case h_2=>cases q
 case h_1 C' bm k0 k1 k2 k3 n k5 hm hs=>
 simp only[i_,beq_iff_eq,G3]at q;obtain⟨⟨⟨⟨⟨⟨⟨L,en⟩,Z⟩,J⟩,U⟩,hi⟩,R⟩,Q⟩:=q;subst L en;have S:Ru K C'=ar cd:=by unfold Ru;rw[ho]
 refine⟨⟨T,c.ob,cd,S,R,Q⟩,?_,?_⟩
 ·split at Y
  ·next o hf=>exact⟨o,hf,QU.mp Y⟩
  ·cases Y
 rcases cd with⟨nm,bs,mro,ns,qn,hd,sn,sub,ab,col,del⟩;dsimp only at hm Z U hi;subst hm Z;obtain rfl:P= #[k0,k1,k2,k3,ar (.builtin "ValueError.__new__"),k5]:=by rcases P with⟨l⟩;simp only at hs;rw[hs]
 have O:h.Ns ns (h.nsMap ns):=.of_isNs (W.isNs_of_in X U);exact⟨bm,ns,nm,qn,bs,hd,sn,sub,ab,col,dd,k0,k1,k2,k3,k5,_,X _ _ ho,O,E9 X O hi,W.tail_of_in X J⟩
def KF(C:dt):Sp:=fun vs H Q _=>∃e t v1 v2,vs=[.ref e,v1,v2]/\H e=ar (.ext (g0 C e t none))/\∀dx,H dx=none->dx≠e->Q .non (upd (upd H dx (.ext (i8 dx [("many",v1),("most",v2)]))) e (.ext (g0 C e t (ar dx))))
theorem wG(h:a≠b):upd (upd H a o) b u=upd (upd H b u) a o:=by
 funext c;unfold upd;by_cases h1:c=b
 ·by_cases h2:c=a
  ·exact absurd (h2.symm.trans h1) h
  ·rw[if_pos h1,if_neg h2,if_pos h1]
 ·rw[if_neg h1];by_cases h2:c=a
  ·rw[if_pos h2,if_pos h2]
  ·rw[if_neg h2,if_neg h2,if_neg h1]
theorem Fb{P:eM}{w:fg}{K:d_}{S:Str->Option a_}{base:gd}{C f:dt}{J:gc}{X:ri}{I G u z o n p r:Pos}(F:Fun K "__init__" "TooGreat.__init__" X f J)(L:ExcS K C)(c:ExcC K C)
  (B:FnScope ["self","many","most"] ["self","many","most"] (av X)) (N:∀x∈(["self","many","most"]:List Str),(av X).names.lookup x=ar .local)
  (y:dQ X=[.Assign [.Attribute (.Name "self" I) "many" G] (.Name "many" u) z,.Assign [.Attribute (.Name "self" o) "most" n] (.Name "most" p) r]):
  FnOk P w K S base (lH P w) 1 f J ["self","many","most"] (KF C):=by
 obtain⟨k,od,kV,doc,pm,an,U,ct,v,rfl,m,R⟩:=F.ex;refine BP m R B (fun vs H Q E ⟨_,_,_,_,h,_⟩=>by rw[h];rfl) fun A outer s H vs Q E l h=>?_
 rw[y];have v0:Bu (kh (lH P w) P w K S base ["self","many","most"] "TooGreat.__init__" (av X) f U A outer s H E).env.scope "self":=.inl (N "self" (by simp))
 have v1:Bu (kh (lH P w) P w K S base ["self","many","most"] "TooGreat.__init__" (av X) f U A outer s H E).env.scope "many":=.inl (N "many" (by simp))
 have v2:Bu (kh (lH P w) P w K S base ["self","many","most"] "TooGreat.__init__" (av X) f U A outer s H E).env.scope "most":=.inl (N "most" (by simp))
 refine⟨_,vF (zw (pv 0 rfl v0) (pv 1 rfl v1) rfl) (tY (zw (pv 0 rfl v0) (pv 2 rfl v2) rfl)),?_⟩;obtain⟨e,t,T,O,rfl,he,q⟩:=h;refine⟨T,rfl,.ref e,rfl,e,C,t,rfl,L,c.mf,.inl ⟨he,fun Z hd Y=>?_⟩⟩;refine⟨O,rfl,.ref e,rfl,e,C,t,rfl,L,c.ms,.inr ⟨Z,[("many",T)],aX,by rw[aK Y];exact aX,Y,rfl,by simp,?_⟩⟩
 have:=q Z hd Y;have e2:upd (upd (upd (upd H Z (.ext (i8 Z [("many",T)]))) e (.ext (g0 C e t (ar Z)))) Z (.ext (i8 Z [("many",T),("most",O)]))) e (.ext (g0 C e t (ar Z)))=upd (upd H Z (.ext (i8 Z [("many",T),("most",O)]))) e (.ext (g0 C e t (ar Z))):=by
  rw[wG Y.symm,tV,tV]
 show Q .non _;rw[<-e2]at this;exact this
end S7
namespace S7
open PySem PySem.Spec PyProof.Rows L2 S3
section
variable {X:Cx}{Ek:XK}
theorem Inv.forget{H:Hp}(I:L2.Inv X pins σ (upd (upd H dx (.ext (i8 dx fs))) e (.ext φ)) s)(P:H dx=none)(S:H e=none)(U:dx≠e):
  L2.Inv X pins σ (upd H dx (.xd fs)) s:=by
 have Z:∀b u,upd (upd H dx (.ext (i8 dx fs))) e (.ext φ) b=ar u->(∀ χ,u≠ .ext χ)->upd H dx (.xd fs) b=ar u:=fun b u q n=>by
  by_cases W:b=e
  ·subst W;rw[aX]at q;cases q;exact absurd rfl (n _)
  ·rw[aK W]at q;by_cases Y:b=dx
   ·subst Y;rw[aX]at q;cases q;exact absurd rfl (n _)
   ·rw[aK Y]at q⊢;exact q
 have T:∀b,upd (upd H dx (.ext (i8 dx fs))) e (.ext φ) b=none->upd H dx (.xd fs) b=none:=fun b q=>by
  by_cases W:b=e
  ·subst W;rw[aX]at q;cases q
  ·rw[aK W]at q;by_cases Y:b=dx
   ·subst Y;rw[aX]at q;cases q
   ·rw[aK Y]at q⊢;exact q
 refine I.un (t':=s.toks) ⟨fun b o q _ _ _=>q,fun b o q _ _ _=>⟨o.slots,q⟩,fun b o _ n _=>T b n,fun b o q _=>⟨o,q⟩,fun b xs q=>Z b _ q (by intro _ z;cases z),fun b o u q=>Z b _ q (by intro _ z;cases z),fun b Q q=>⟨#[],by rw[Z b _ q (by intro _ z;cases z)];simp⟩⟩ fun b u q=>?_
 by_cases Y:b=dx
 ·subst Y;rw[aX]at q;cases q;have R:=I.hok b (.ext (i8 b fs)) (by rw[aK U];exact aX)
  obtain⟨mA,W,Y,_⟩:=R.1;exact⟨mA,W,Y⟩
 ·rw[aK Y]at q;have W:b≠e:=fun z=>by rw[z,S]at q;cases q
  exact(I.hok b u (by rw[aK W,aK Y];exact q)).stay (fun _ _ _ z=>z) (fun c z=>Z c _ z (by intro _ z;cases z)) fun c xs z=>Z c _ z (by intro _ z;cases z)
def De:List D->M Out
 |[a,b]=>M.raise (.exc "TooGreat" [a,b])
 |_=>M.fail
abbrev uR(ms:aP->M (List D)):cV:=fun ρ=>do let ds<-ms ρ;De ds
theorem Ba(L:Leaves X Ek)(hc:X.calm=b_)(eK:gT X.K=b_)(a3:p_ X.K g_ "TooGreat"=ar (ar (.ref C)))(a6:lA X.K C f=b_)
  (F:FnOk X.prog X.w X.K X.mg X.base (lH X.prog X.w) k f fd ["self","many","most"] (KF C)) (hb:Binds X.K fd ["self","many","most"] []) (hr:Room (k+1) X.A)
  (ha:SA X (wj X.K Ek) (e::es) ms) (hg:Gl X "TooGreat":=by rfl)
  (he:ee (e::es) X.env=(dV,hS e X.env)::ee es X.env:=by rfl) (a9:(pa cpos (ee es X.env)).any (·.1)=false:=by rfl):
  SS X (wj X.K Ek) (.Raise (ar (.Call (.Name "TooGreat" np) (e::es) [] cpos)) none pos) (uR ms):=by
 intro pins s σ H T I h;obtain⟨ι,S,ρ,rep,re,c⟩:=h;obtain⟨R,d⟩:=kK eK (show("TooGreat":Str)∈bg by decide)
 have eC:R=C:=by
  have:=d.ns.symm.trans a3;cases this;rfl
 subst eC;obtain⟨cS,⟨oI,a8,a4⟩,bm,N,nm,qn,bs,hdct,sn,sub,ab,col,dd,k0,k1,k2,k3,k5,mN,hC,hN,hi,tl⟩:=tx I.mod.kin d.ck a6;have hm:X.mg "TooGreat"=ar (.ref R):=MI I.mod.kin I.mod.glob d.ns;refine wD (k5:=k5) (k3:=k3) (k2:=k2) (k1:=k1) (k0:=k0) (nm:=nm) (q:=qn) (C:=R) (N:=N) (bm:=bm) (bs:=bs) (hdct:=hdct) (sn:=sn) (sub:=sub) (ab:=ab) (col:=col) (dd:=dd) (fI:=f) (oI:=oI) N4 (by decide) N4 (mN:=mN) (tl.hasType PySem.F.excBase_ValueError.hasBase) (I.ok.hd hc) (by rw[he];show(dV||(pa cpos (ee es X.env)).any (·.1))=dV;rw[a9];rfl) hi a4 (kX I hg hm ⟨rfl,?_⟩ (by decide))
 have J:=ha cpos pins s σ H _ I ⟨ι,S,ρ,rep,re,aD (aq c) fun ds Y S1 Q e1 rep1 O vs y=>(⟨Y,S1,ds,rep1,y,O⟩:∃Y S1 ds,Rep X.K Y Q S1/\RelDs X.K Y Q ds vs/\cont X.K (wj X.K Ek) (De ds) Y S1 Q _)⟩;rw[he]at J⊢;refine Pp (Nf J (fun us s2 a7=>?_) fun _ _ z=>z);obtain⟨vs,Q,o,rv,Y,S1,ds,rep1,y,O⟩:=a7
 match ds,y,O with
 |[],y,O=>exact(aj O).elim
 |[_],y,O=>exact(aj O).elim
 |_::_::_::_,y,O=>exact(aj O).elim
 | [da,db],y,O=>
  obtain⟨n,ws,rfl,ra,r2⟩:=y.cons_inv;obtain⟨p,c4,rfl,rb,r3⟩:=r2.cons_inv;cases r3.nil_inv;have hlen:us.length=2:=rv.length.symm;refine⟨rfl,?_,o.bk _ _ hC,hN.keeps o.bk,tl.keeps o.bk,o.bk _ _ (I.mod.kin _ _ a8),fun h' Z hm=>?_⟩
  ·show us.length<=sizeLine;rw[hlen,Nq];decide
  ·obtain⟨t,h1,h2,h3⟩:=hm.there;have l:Q Z=none:=gG.gone o.hok hm.new;have g:L2.Inv X pins σ (upd Q Z (.ext (g0 R Z t none))) {s2 with heap:=h'}:=Inv.laidG (t':=s2.toks) o hm.keeps hm.new (Dd h1);have a0:KF R [.ref Z,n,p] (upd Q Z (.ext (g0 R Z t none))) (fun v H'=>v= .non/\∃U,upd Q Z (.ext (g0 R Z t none)) U=none/\U≠Z/\H'=upd (upd (upd Q Z (.ext (g0 R Z t none))) U (.ext (i8 U [("many",n),("most",p)]))) Z (.ext (g0 R Z t (ar U)))) Ek:=
    ⟨Z,t,n,p,rfl,aX,fun U hd P=>⟨rfl,U,hd,P,rfl⟩⟩
   have a5:bw [V.ref Z,n,p] (ey Z::us):=.cons rfl rv;refine O8 (Od (F.run _ X.stack _ _ ⟨ey Z::us,[]⟩ (ey Z::us) _ _ Ek (hr.make R us []) (g.env0.make R us []) ?_ a5 a0) fun r s' E=>?_)
   ·have:=hb {s2 with heap:=h'} (ey Z::us) g.kIn (by simp[hlen])
    rw[M3]at this;exact this
   ·cases r with
    |error x=>exact L.pass pins σ _ _ x s' g E
    | ok fl=>
     cases fl with
     |next=>exact hJ E
     |brk=>exact hJ E
     |cont=>exact hJ E
     | ret u=>
      obtain⟨v,H',i,b,ev,U,j,P,rfl⟩:=g.after E;subst ev;have G:Q U=none:=by rw[aK P]at j;exact j
      have e2:upd (upd (upd Q Z (.ext (g0 R Z t none))) U (.ext (i8 U [("many",n),("most",p)]))) Z (.ext (g0 R Z t (ar U)))=upd (upd Q U (.ext (i8 U [("many",n),("most",p)]))) Z (.ext (g0 R Z t (ar U))):=by
       rw[wG P.symm,tV]
      rw[e2]at i;have B:s'.heap.get? Z=ar {cls:=.ref R,dict:=ar U,data:=.fields #[.ref t,.none,.none,.none,.bool dV,.none]}:=(i.hok Z _ aX).1;have I4:=Inv.forget i G l P;refine⟨b,t,ar U,i.bk _ _ hC,B,?_⟩;obtain⟨r',S',e',q'⟩:=O;cases e';have m:=o.base;rw[L.ex]at m;refine L.new I4 B rfl rfl rfl rfl (by rw[aK (kr P)];exact l) (Un.gone m (by simp) hm.new) ?_
      have a:Ext Y Q Y (upd Q U (.xd [("many",n),("most",p)])):=fO G;exact q' Y _ a (gH rep1 G) _ _ ⟨"TooGreat",[da,db],R,rfl,d.ns,rfl,.inr ⟨U,_,rfl,aX,rfl,.cons (ra.later rep1 a) (.cons (rb.later rep1 a) .nil)⟩⟩
end
end S7
end
namespace S7
open PySem PySem.Spec PyProof.Rows L2 S3
theorem Df{h:gd}{mA:Str->Option a_}(n:h.Ns1 dx mA)(e:h.get? dx=ar od)(Y:mA f=ar v):Ri f od=ar (ar v):=by
 obtain⟨o,es,ep,e1,hd,_,_,hf⟩:=n;rw[e]at e1;cases e1;unfold Ri;rw[hd];have:=hf f;rw[Y]at this;unfold nsFind findBy at this;rw[<-PQ]at this;cases q:es.toList.find? (·.key.isStr f)with
 |none=>rw[q]at this;cases this
 |some en=>
  rw[q]at this;have Z:en.val=v:=MS this;rw[<-Z];dsimp only;rw[q]
section
variable {X:Cx}{E:XD}{pins:List (dt×Obj)}{σ:L2.St}{H:Hp}{s:c_}
theorem wH{a C Y:dt}{fs:List (Str×V)}{f:Str}{v:V}{b:Bool}{Q:a_->c_->Prop}{A:hI}{E:a_->c_->Prop}(c:ExcC X.K C)(U:∀cd,Ru X.K C=ar cd->cd.hasDict=b_)(T:D' X.K (.ref C) f=ar none)(I:L2.Inv X pins σ H s)(O:H a=ar (.ext (oX C a (ar Y))))(x:H Y=ar (.xd fs))(z:fs.lookup f=ar v)
  (F:W.copiedNames.contains f=dV) (h:∀u s',L2.Inv X pins σ H s'->RelV v u->Q u s'):er (f_ X.prog X.w) A (SJ (.ref a) f b) Q E s:=by
 obtain⟨⟨N,vs,he,G,y,S⟩,_⟩:=I.hok a _ O;obtain⟨mA,P,B⟩:=(show ∃mA,s.heap.Ns1 Y mA/\∀f,tU (fs.lookup f) (mA f)from I.hok Y _ x);obtain⟨od,es,ep,e1,_⟩:=id P;obtain⟨u,L,R⟩:=tU.some_of (v:=v) (o:=mA f) (by rw[<-z];exact B f)
 have J:z4 s.heap a N C (ar od):=⟨he,G,by unfold Sv;rw[S],by rw[y];exact e1⟩
 obtain⟨cd,Z⟩:=Nk.mp c.cd;have hf:W.findObj X.K C (ar od) f=ar (.value u):=by
  unfold W.findObj;rw[Z,On,T,On];simp only[Ic];unfold W.ownOf;rw[U cd Z,if_pos rfl];dsimp only;rw[Df P e1 L];rfl
 unfold SJ;refine Mo (wpAny_mkText ?_);refine CM (s:={s with toks:=s.toks+1}) I.kIn J c.ga c.gt c.be ?_;refine sg (s:={s with toks:=s.toks+1}) I.kIn J hf ?_;exact W.handed_on (Ap R) (h u _ (I.tok _) R)
def zx(second:Bool):D->M D
 | .exc n [a,b]=>if n∈bg then aC (if second then b else a)else M.fail
 |_=>M.fail
abbrev jG(second:Bool)(m:TM):TM:=fun ρ=>do let x<-m ρ;zx second x
theorem zy{e:Expr}{m:TM}{pos:Pos}{Z:Bool}{f:Str}(x:gT X.K=b_)(P:∀n∈bg,∀C,p_ X.K g_ n=ar (ar (.ref C))->∀cd,Ru X.K C=ar cd->cd.hasDict=b_)(F:SE X E e m)(R:f=if Z then "most" else "many")(A:o_ e f X.env (hS e X.env)=hS e X.env:=by rfl):
  SE X E (.Attribute e f pos) (jG Z m):=by
 intro pins s σ H Q I h;refine En A (eJ (F pins s σ H (fun v Y=>∃ ι d,RelD X.K ι Y d v/\∃n a b va vb C dx p,d= .exc n [a,b]/\n∈bg/\v= .ref p/\p_ X.K g_ n=ar (ar (.ref C))/\Y p=ar (.ext (oX C p (ar dx)))/\Y dx=ar (.xd [("many",va),("most",vb)])/\Q (if Z then vb else va) Y) I ?_) fun u s1 ⟨v,Y,I1,rv,ι,d,rd,n,a,b,va,vb,C,dx,p,hd,hn,hp,hns,g1,g2,q⟩=>?_)
 ·obtain⟨ι,S,ρ,rep,re,c⟩:=h;refine⟨ι,S,ρ,rep,re,aD (aq c) fun d O S1 Y e1 rep1 U v r=>⟨O,d,r,?_⟩⟩;unfold zx at U;split at U
  ·next n a b=>
   split at U
   ·next hn=>
    cases r with
    | excF hns h1 h2 h3 h4=>
     rename_i p C dx fs
     match fs,h3,h4,h2 with
     |[(f1,va),(f2,vb)],h3,h4,h2=>
      have e1:f1="many":=(NP h3).1;have e2:f2="most":=(NP (NP h3).2).1;subst e1 e2;obtain⟨_,_,J,G,w⟩:=h4.cons_inv;obtain⟨o,y⟩:=NP J;subst o y;obtain⟨_,_,B,N,_⟩:=w.cons_inv;obtain⟨t,_⟩:=NP B;subst t;refine⟨n,a,b,va,vb,C,dx,p,rfl,hn,rfl,hns,h1,h2,?_⟩;have:=ao U .refl rep1;cases Z with
      |true=>exact this _ N
      |false=>exact this _ G
     |[],h3,_,_=>cases h3
     |[_],h3,_,_=>have:=OG GB h3;simp at this
     |_::_::_::_,h3,_,_=>have:=OG GB h3;simp at this
   ·exact(aj U).elim
  ·exact(aj U).elim
 ·subst hp;obtain rfl:u=ey p:=rv;obtain⟨k,T⟩:=kK x hn;have:=T.ns.symm.trans hns;cases this;refine wH (f:=f) (v:=if Z then vb else va) T.ck (P n hn C hns) (by rw[R];cases Z<;>first|exact T.ck.mf|exact T.ck.ms) I1 g1 g2 (by rw[R];cases Z<;>rfl) (by rw[R];cases Z<;>decide) fun l s' z L=>⟨_,Y,z,L,q⟩
end
section
variable {X:Cx}{E:XD}{st:ri}{m:TM}{i:Nat}
theorem RelE.all{K:d_}{ι Z:List dt}{H U:Hp}{n:Nat}(Y:∀e v,eU n e=b_->RelD K ι H e v->RelD K Z U e v):
  ∀{ρ:aP} {σ:L2.St},RelE K ι H ρ σ->(∀e,ar e∈ρ->eU n e=b_)->RelE K Z U ρ σ
 |[],_,h,_=>by cases h;exact .nil
 |_::ρ,_,.cons h t,c=>.cons (fun d' z=>by obtain⟨v,e1,e2⟩:=h _ z;exact⟨v,e1,Y _ v (c d' (by rw[z];exact MH ..)) e2⟩) (RelE.all Y t fun e z=>c e (My _ z))
theorem RelE.swap{K:d_}{ι Z:List dt}{H U:Hp}{n:Nat}{d u:D}(T:∀v,RelD K ι H d v->RelD K Z U u v)(Y:∀e v,eU n e=b_->RelD K ι H e v->RelD K Z U e v):
  ∀{ρ:aP} {i:Nat} {σ:L2.St},RelE K ι H (ρ.set i (ar d)) σ->(∀e,ar e∈ρ->eU n e=b_)->RelE K Z U (ρ.set i (ar u)) σ
 |[],_,_,h,_=>by cases h;exact .nil
 |_::ρ,0,_,.cons h t,c=>.cons (fun d' z=>by cases z;obtain⟨v,e1,e2⟩:=h _ rfl;exact⟨v,e1,T v e2⟩) (RelE.all Y t fun e z=>c e (My _ z))
 |_::ρ,i+1,_,.cons h t,c=>.cons (fun d' z=>by obtain⟨v,e1,e2⟩:=h _ z;exact⟨v,e1,Y _ v (c d' (by rw[z];exact MH ..)) e2⟩) (RelE.swap T Y (ρ:=ρ) (i:=i) t fun e z=>c e (My _ z))
theorem qO(h:SS X E st (bA i m)):SS X E st (bA i (aM m)):=by
 intro pins s σ H T I O;obtain⟨ι,S,ρ,rep,re,r,G,B,k⟩:=O;have Z:(iG (m ρ)>>=fun d=>(aC (Out.nx (ρ.set i (ar d))):M Out)) S=ar (r,G):=B;have F:∀(c:M D),(c>>=fun d=>(aC (Out.nx (ρ.set i (ar d))):M Out)) S=(match c S with|some (.ok d,S1)=>ar (.ok (Out.nx (ρ.set i (ar d))),S1)|some (.ex x,S1)=>ar (.ex x,S1)|none=>none):=fun c=>by
  show M.bnd c _ S=_;unfold M.bnd;cases c S with
  |none=>rfl
  |some p=>obtain⟨r,S1⟩:=p;cases r<;>rfl
 rw[F]at Z;unfold iG at Z;cases q:m ρ S with
 |none=>rw[q]at Z;cases Z
 | some p=>
  obtain⟨A,Q⟩:=p;rw[q]at Z;have N:bA i m ρ S=_:=F (m ρ);rw[q]at N;cases A with
  |ex x=>
   cases Z;exact h pins s σ H T I ⟨ι,S,ρ,rep,re,.ex x,_,N,k⟩
  | ok d=>
   dsimp only at Z;by_cases hl:Q.length<=S.length
   ·rw[if_pos hl]at Z;cases Z;exact h pins s σ H T I ⟨ι,S,ρ,rep,re,_,_,N,k⟩
   ·rw [if_neg hl]at Z;by_cases hk:oG S Q
    ·rw [if_pos hk]at Z;cases z:jr S.length (xn Q S.length 60) d with
     |none=>rw[z]at Z;cases Z
     | some u=>
      rw[z]at Z;cases Z;refine eJ (h pins s σ H {nx:=fun Y L=>∃P:List dt,∀os,T.nx Y (oH P os L),rt:=fun _ _=>False} I ⟨ι,S,ρ,rep,re,_,_,N,fun R L x W Y J=>?_⟩) fun f s' hf=>?_
      ·refine⟨R.drop ι.length,fun os=>?_⟩;obtain⟨t,rep2⟩:=wB rep x W hk os;have U:Rep X.K ι (oH (R.drop ι.length) os L) (Q.take S.length):=by rw[<-rep.len];exact rep2
       have O:R.take ι.length=ι:=by obtain⟨more,rfl⟩:=x.ids;simp
       refine k ι _ t U Y ?_;refine RelE.swap (n:=ι.length) (d:=d) (u:=u) (fun v l=>?_) (fun e v c r=>?_) J fun e z=>?_
       ·have:=yk (n:=ι.length) (os:=os) (fun k us a=>by rw[rep.len];exact zv W 60 k us a) W.nd l (by rw[rep.len];exact z)
        rw[O]at this;exact this
       ·have:=RelD.down (n:=ι.length) (os:=os) r c;rw[O]at this;exact this
       ·obtain⟨j,y⟩:=List.getElem?_of_mem z;obtain⟨v,_,r⟩:=re.get y;exact r.cl
      ·cases f with
       |next=>
        obtain⟨Y,L,w,P,o⟩:=hf;obtain⟨os,C⟩:=Inv.fz w P;exact⟨Y,_,C,o os⟩
       |ret v=>obtain⟨_,_,_,_,_,z⟩:=hf;exact z.elim
       |brk=>obtain⟨_,_,_,z⟩:=hf;exact z.elim
       |cont=>obtain⟨_,_,_,z⟩:=hf;exact z.elim
    ·rw[if_neg hk]at Z;cases Z
end
def JX:ri->ri
 | .ClassDef _ _ _ (b::_) .. =>b
 |s=>s
structure GrX(P:eM)(w:fg)(K:d_)(mg:Str->Option a_)(base:gd):Prop where
 ex:∃C f fd,p_ K g_ "TooGreat"=ar (ar (.ref C))/\lA K C f=b_/\FnOk P w K mg base (lH P w) 1 f fd ["self","many","most"] (KF C)/\Binds K fd ["self","many","most"] []
theorem Dg{P:eM}{w:fg}{K:d_}{G:Str->Option a_}{base h:gd}{C f:dt}{R:gc}{U:ri}{O N z E H B L y:Pos}(F:Fun K "__init__" "TooGreat.__init__" U f R)(X:K.In h)(J:gT K=b_)(Z:p_ K g_ "TooGreat"=ar (ar (.ref C)))(Y:lA K C f=b_)
  (I:FnScope ["self","many","most"] ["self","many","most"] (av U)) (Q:∀x∈(["self","many","most"]:List Str),(av U).names.lookup x=ar .local) (T:Binds K R ["self","many","most"] [])
  (A:dQ U=[.Assign [.Attribute (.Name "self" O) "many" N] (.Name "many" z) E,.Assign [.Attribute (.Name "self" H) "most" B] (.Name "most" L) y]):GrX P w K G base:=by
 obtain⟨v,S⟩:=kK J (show("TooGreat":Str)∈bg by decide)
 have:=S.ns.symm.trans Z;cases this;exact⟨C,f,R,Z,Y,Fb F (tx X S.ck Y).1 S.ck I Q A,T⟩
section
variable {X:Cx}{Ek:XK}
theorem Dh(L:Leaves X Ek)(Q:X.calm=b_)(P:gT X.K=b_)(S:GrX X.prog X.w X.K X.mg X.base)(J:Room 2 X.A)
  (U:SA X (wj X.K Ek) (e::es) ms) (O:Gl X "TooGreat":=by rfl)
  (Y:ee (e::es) X.env=(dV,hS e X.env)::ee es X.env:=by rfl) (Z:(pa cpos (ee es X.env)).any (·.1)=false:=by rfl):
  SS X (wj X.K Ek) (.Raise (ar (.Call (.Name "TooGreat" np) (e::es) [] cpos)) none pos) (uR ms):=by
 obtain⟨C,f,fd,R,N,W,T⟩:=S.ex;exact Ba L Q P R N W T J U O Y Z
end
theorem DefX.none{P:eM}{w:fg}{K:d_}{Y:Str->Option a_}{base:gd}{k:Nat}{x qual:Str}{S:ri}{f:dt}{Z:gc}{X:List Str}(F:Fun K x qual S f Z)(U:Y x=ar (.ref f))(T:Binds K Z X []):DefX P w K Y base k x X (fun _=>M.fail):=
 ⟨f,Z,⟨fun vs H Q E ⟨_,_,_,_,_,h⟩=>(aj h).elim,fun A outer s H args us vs Q E _ _ _ _ ⟨_,_,_,_,_,h⟩=>(aj h).elim⟩,U,F.kp,T⟩
def Fc(K:d_):Bool:=bg.all fun n=>match p_ K g_ n with
 |some (ar (.ref C))=>(match Ru K C with|some cd=>cd.hasDict|none=>b_)
 |_=>b_
theorem Ge{K:d_}(h:Fc K=b_):∀n∈bg,∀C,p_ K g_ n=ar (ar (.ref C))->∀cd,Ru K C=ar cd->cd.hasDict=true:=by
 intro n X C Y cd Z;have:=MM.mp h n X;rw[Y]at this;dsimp only at this;rw[Z]at this;exact this
section
variable {X:Cx}{E:XD}
theorem Fd(W:gT X.K=b_)(Z:Fc X.K=b_)(Y:SE X E e m)(U:o_ e "many" X.env (hS e X.env)=hS e X.env:=by rfl):SE X E (.Attribute e "many" pos) (jG dV m):=zy W (Ge Z) Y rfl U
theorem Fe(W:gT X.K=b_)(Z:Fc X.K=b_)(Y:SE X E e m)(U:o_ e "most" X.env (hS e X.env)=hS e X.env:=by rfl):SE X E (.Attribute e "most" pos) (jG b_ m):=zy W (Ge Z) Y rfl U
end
end S7
namespace S3
open PySem PySem.Spec PyProof.Rows L2 S4
mutual
theorem qP:∀d,eU n d=b_->jr n g d=ar d
 | .lst k,h=>by unfold eU at h;unfold jr;rw[if_pos (Nm h)]
 | .tup ds,h=>by unfold eU at h;unfold jr;rw[jf ds h];rfl
 | .ro ds,h=>by unfold eU at h;unfold jr;rw[jf ds h];rfl
 | .fz ds,h=>by unfold eU at h;unfold jr;rw[jf ds h];rfl
 | .fn _ _ _ ds _,h=>by unfold eU at h;unfold jr;rw[jf ds h];rfl
 | .exc _ ds,h=>by unfold eU at h;unfold jr;rw[jf ds h];rfl
 | .non,_=>by unfold jr;rfl
 | .bl _,_=>by unfold jr;rfl
 | .int _,_=>by unfold jr;rfl
 | .str _,_=>by unfold jr;rfl
 | .emp,_=>by unfold jr;rfl
theorem jf:∀ds,b8 n ds=b_->gU n g ds=ar ds
 |[],_=>by unfold gU;rfl
 |d::ds,h=>by
  unfold b8 at h;rw[M5]at h;unfold gU;rw[qP d h.1,jf ds h.2]
end
mutual
theorem wI(Z:m<=n):∀d,eU m d=b_->eU n d=b_
 | .lst k,h=>by unfold eU at h⊢;exact MF (MG (Nm h) Z)
 | .tup ds,h=>by unfold eU at h⊢;exact jU Z ds h
 | .ro ds,h=>by unfold eU at h⊢;exact jU Z ds h
 | .fz ds,h=>by unfold eU at h⊢;exact jU Z ds h
 | .fn _ _ _ ds _,h=>by unfold eU at h⊢;exact jU Z ds h
 | .exc _ ds,h=>by unfold eU at h⊢;exact jU Z ds h
 | .non,_=>by unfold eU;rfl
 | .bl _,_=>by unfold eU;rfl
 | .int _,_=>by unfold eU;rfl
 | .str _,_=>by unfold eU;rfl
 | .emp,_=>by unfold eU;rfl
theorem jU(Z:m<=n):∀ds,b8 m ds=b_->b8 n ds=b_
 |[],_=>by unfold b8;rfl
 |d::ds,h=>by
  unfold b8 at h⊢;rw[M5]at h⊢;exact⟨wI Z d h.1,jU Z ds h.2⟩
end
section
variable {c:M D}{S:aF}{Q:D->aF->Prop}{v:D}
theorem Ff:iG (aC v)=aC v:=by
 funext S;show(if S.length<=S.length then _ else _)=_;rw[if_pos (Ms _)];rfl
theorem Di:iG (M.raise x)=M.raise x:=rfl
theorem jV(e:c S=ar (.ok d,S'))(X:oG S S')(Z:S.length<S'.length\/u=d)(W:S.length<=S'.length)(Y:jr S.length (xn S' S.length 60) d=ar u):iG c S=ar (.ok u,S'.take S.length):=by
 unfold iG;rw[e];dsimp only;by_cases h:S'.length<=S.length
 ·have hd:u=d:=Z.resolve_left (by omega)
  rw[if_pos h,hd,O5 h]
 ·rw[if_neg h,if_pos X,Y]
theorem Fg(h:runs c S fun d Z=>oG S Z/\S.length<=Z.length/\eU S.length d=b_/\Q d (Z.take S.length)):runs (iG c) S Q:=by
 obtain⟨d,Z,e,X,Y,hd,q⟩:=h;exact⟨d,_,jV e X (.inr rfl) Y (qP d hd),q⟩
theorem qQ:oG S (S++G):=fun k xs Z e=>.inl (by rw[MN Z]at e;exact e)
theorem Dj(h:runs c S fun d Z=>(∃G,Z=S++G)/\eU S.length d=b_/\Q d S):runs (iG c) S Q:=by
 obtain⟨d,Z,e,⟨G,rfl⟩,hd,q⟩:=h;exact Fg ⟨d,_,e,qQ,by simp,hd,by simpa using q⟩
theorem wJ(h:runs c S fun d Z=>∃G p us,d= .lst p/\Z=S++G/\Z[p]? =ar us/\S.length<=p/\b8 S.length us=b_/\Q (.fz us) S):runs (iG c) S Q:=by
 obtain⟨d,Z,e,G,p,us,rfl,rfl,Y,U,X,q⟩:=h;have W:=(Mv.mp Y).1;refine⟨.fz us,S,?_,q⟩;have:=jV (u:=.fz us) e qQ (.inl (by omega)) (by simp) (by
  unfold jr;rw[if_neg (by omega)]
  show(((S++G)[p]?).bind fun xs=>gU S.length (xn (S++G) S.length 59) xs).map D.fz=_;rw[Y,On,jf us X];rfl)
 rw[this];simp
theorem bp{Z:Type}{c:M Z}{v:Z}(h:∀S,runs c S fun d Y=>d=v/\Y=S):c=aC v:=by
 funext S;obtain⟨d,Y,e,rfl,rfl⟩:=h S;exact e
theorem Dk(Y:eU 0 v=b_)(h:∀S,runs c S fun d Z=>d=v/\∃G,Z=S++G):iG c=aC v:=
 bp fun S=>Dj (tm (h S) fun d Z ⟨e,g⟩=>⟨g,by rw[e];exact wI (ML _) v Y,e,rfl⟩)
theorem Fh(Y:b8 0 us=b_)(h:∀S,runs c S fun d Z=>∃G p,d= .lst p/\Z=S++G/\Z[p]? =ar us/\S.length<=p):iG c=aC (.fz us):=
 bp fun S=>wJ (tm (h S) fun d Z ⟨G,p,e1,e2,e3,e4⟩=>⟨G,p,us,e1,e2,e3,e4,jU (ML _) us Y,rfl,rfl⟩)
theorem bF(Y:b8 0 us=b_)(Z:us.length<=lim):iG (bD us)=aC (.fz us):=
 Fh Y fun S=>AZ.mpr ⟨Z,[us],S.length,rfl,rfl,by simp,Ms _⟩
end
theorem cX:jm ⟨its,.none⟩=aC ():=by
 funext S;unfold jm;rw[if_pos (show Iter.okS ⟨its,.none⟩ S from trivial)];rfl
section
variable {its:List D}{g:nO}{t:aP->M Bool}{m:TM}
theorem wK(R:aP->Prop)(q:D->Bool)(f:D->D):∀(items:List D) (ρ:aP),R ρ->(∀d∈items,∀ ρ,R ρ->∃Z,g d ρ=aC Z/\R Z/\t Z=aC (q d)/\(q d=b_->m Z=aC (f d)))->
  cR ⟨its,.none⟩ g t m items ρ=aC ((items.filter q).map f)
 |[],ρ,_,_=>by unfold cR;rw[cX];rfl
 |d::ds,ρ,hR,hb=>by
  obtain⟨Z,e1,Y,e2,U⟩:=hb d (MH ..) ρ hR;have X:=wK R q f ds Z Y fun x W=>hb x (My _ W);unfold cR;rw[cX,au,e1,au,e2,au,X];cases hq:q d with
  |true=>rw[NX hq,if_pos rfl,U hq,au];rfl
  |false=>rw[NY (by rw[hq];decide),if_neg (by decide)]
theorem zz(R:aP->Prop)(q:D->Bool)(f:D->D)(Z:its.length<=lim)(Y:R ρ)(X:∀d∈its,∀ ρ,R ρ->∃ ρ1,g d ρ=aC ρ1/\R ρ1/\t ρ1=aC (q d)/\(q d=b_->m ρ1=aC (f d))):
  ik ⟨its,.none⟩ g t m ρ=aC ((its.filter q).map f):=by
 unfold ik;rw[if_pos Z];exact wK R q f its ρ Y X
end
end S3
namespace S7
open PySem PySem.Spec PyProof.Rows L2 S3
section
variable {X:Cx}{E:XD}{k i jn jy:Nat}{a c':dt}{ql:Str}{ds:List D}{vs:List V}{m:TM}{x n y cx:Str}{p cpos epos np p1 p2 p3 hpos tpos:Pos}
end
section
variable {X:Cx}{x ql:Str}{k k0 i:Nat}{a c':dt}{ps:List Str}{R:D->M D->List D->M D}{R':M D->List D->M D}{p pos:Pos}{e:Expr}{es:List Expr}{ms:S3.aP->M (List D)}{m:TM}{ds:List D}{vs:List V}
end
section
variable {X:Cx}{E:XD}{pos:Pos}
end
end S7
namespace S3
open PySem PySem.Spec PySem.W PyProof.Rows L2 S4
section
variable {X:Cx}{E:XD}{e:Expr}{m:TM}{pos:Pos}
theorem si:ef X (.builtin "sorted") (fun xs H Q=>∃(p:dt) (ns:List Int),xs=[.ref p]/\lJ X.K H p (ns.map V.int)/\ns.length<64/\∀l,H l=none->Q (.ref l) (upd H l (.lst ((sortI ns).map V.int)))):=by
 intro pins s σ H xs us Q I r h;obtain⟨p,ns,rfl,L,C,q⟩:=h;obtain⟨u,rfl,P⟩:=vals1 r;cases (show u=ey p from P);obtain⟨its,R,⟨o,G,J,n,hd⟩,N⟩:=I.tuple L;have O:n7 its ns:=PB R;have hlen:=R.length;rw[Mq]at hlen N;refine P5 kind_sorted plain_sorted entry_sorted (args_sorted1 _) ?_;unfold Builtin.«sorted»;refine Mo (m:=checkCount "sorted" 1 1 _) (Mr ?_);refine Mo (wpAny_collect_seq p (.inr rfl) G J hd (fun h' keep=>?_) (by rw[MB];omega))
 rw[List.toList_toArray];refine Mo (Rc ?_ (by rw[Nq];omega))
 have Z:(h'.push (t4 "list" its.toArray 0)).get? h'.objs.size=ar (t4 "list" its.toArray 0):=Mz _ rfl;refine Mo (Nd (Ng slot_list_sort ⟨_,Z,rfl⟩ entry_list_sort (list_sort_tree Z O (by omega) fun out U a1 a2 F=>⟨_,rfl,?_⟩) (args_list_sort _)))
 refine Mr ⟨_,rfl,?_⟩;have en:U=sortI ns:=W.lks_uniq (a2.trans (sortI_perm ns).symm) F (fj ns);subst en;obtain⟨c,T⟩:=sortedHeap_at (vs:=its) (out:=out) Z;have S:L2.Inv X pins σ H {s with heap:=h',toks:=s.toks}:=I.kept keep;have hf:H h'.objs.size=none:=S.hok.fresh (Ms _);refine⟨.ref h'.objs.size,_,S.laid (t':=s.toks) (o:=.lst ((sortI ns).map V.int)) (fun b o e=>?_) (Ms _) ⟨?_,out.toList,c,jA a1,T⟩,rfl,q _ hf⟩
 ·have Y:b<h'.objs.size:=Mx e;rw[sortedHeap_old (MD Y) (by rw[size_push'];exact Nz Y)]
  exact Mp _ e
 ·rw[Mq,(sortI_perm ns).length_eq,Nq];omega
def iO:List D->M D
 |[.tup xs]=>match intsOf xs with
  |some ns=>if ns.length<64 then bD ((sortI ns).map D.int)else M.fail
  |none=>M.fail
 |_=>M.fail
theorem qR:lL X.K E iO (fun xs H Q=>∃(p:dt) (ns:List Int),xs=[.ref p]/\lJ X.K H p (ns.map V.int)/\ns.length<64/\∀l,H l=none->Q (.ref l) (upd H l (.lst ((sortI ns).map V.int)))):=by
 intro ι S H ds vs Q rep r c;unfold iO at c;split at c
 ·next es=>
  obtain⟨v,ws,rfl,W,Z⟩:=r.cons_inv;cases Z.nil_inv;obtain⟨p,us,rfl,Y,U⟩:=W.tup_inv;cases q:intsOf es with
  |none=>rw[q]at c;exact(aj c).elim
  | some ns=>
   rw[q]at c;have c:cont X.K E (if ns.length<64 then bD ((sortI ns).map D.int)else M.fail) ι S H (lK X.K Q):=c;by_cases h:ns.length<64
   ·rw[if_pos h]at c;exact⟨p,ns,rfl,.of (by rw[<-gC U q];exact Y),h,(bJ c rep (m6 _)).2⟩
   ·rw[if_neg h]at c;exact(aj c).elim
 ·exact(aj c).elim
theorem yp{p:Pos}(W:X.mg "sorted"=none)(Y:SE X E e m)(Z:Gl X "sorted":=by rfl)(hs:ee [e] X.env=[(dV,hS e X.env)]:=by rfl):SE X E (.Call (.Name "sorted" p) [e] [] pos) (fun ρ=>do let ds<-(do let x<-m ρ;let xs<-aC [];aC (x::xs));iO ds):=
 jD si qR Z W (by decide+kernel) (af Y ai hs) (by decide) (by decide) hs rfl
end
end S3
namespace W
open PySem PySem.Spec PyProof.Rows L2 S3 S4 S7
def qS:cV:=bz (qH (fH (mV 0) "int") (JP (fH (mV 0) "bool")))
def cY:List D->M D:=lq 1 1 qS
def tD:cV:=bz (qH (fH (mV 0) "tuple") (aW il (cN dW (mV 0)) (mK (.int 2))))
def dD:List D->M D:=lq 1 1 tD
def iP:jF:=lN
def iQ:TM:=aW Bw (mV 0) (mV 1)
def oO:cV:=bz (cN oY (aM (bC (wy (mV 0) (aM (mH (mV 0) (oS (mK (.int 1))) (oN)))) (gR 2 (bS (gN 0) (bS (gN 1) (ie)))) iP iQ [none,none])))
def fY:List D->M D:=lq 1 1 oO
def qT:cV:=bz (aW inD (eT (ae (aw minD (ae (mV 1) (ae (mV 2) (ak)))) (ae (aw maxD (ae (mV 1) (ae (mV 2) (ak)))) (ak)))) (aW b7 (mV 0) (mK (.int 1))))
def eV:List D->M D:=lq 3 3 qT
def kO:cV:=aI (gZ (c9 Bw (mV 1) (cN dW (mV 0))) (bz (aW b7 (mV 0) (mV 1))) (cG)) (bz (mK (.int 0)))
def dE:List D->M D:=lq 2 2 kO
def oQ:cV:=aI (gZ (bV (aW b7 (mV 0) (mK (.int 1)))) (aI (bA 2 (aW mq (aW b7 (mV 0) (mK (.int 0))) (mV 1))) (aI (qJ (aW jc (aW b7 (mV 0) (mK (.int 0))) (mV 1)) (KC (mV 0) (mK (.int 0)))) (bz (mV 2)))) (cG)) (aI (qJ (aW mq (aW bI (aW uu (aW b7 (mV 0) (mK (.int 0))) (mK (.int 48271))) (mK (.int 29))) (mK (.int 2147483647))) (KC (mV 0) (mK (.int 0)))) (aI (bA 3 (aW mq (aW bI (aW bI (aW uu (aW b7 (mV 0) (mK (.int 0))) (aW b7 (mV 0) (mK (.int 0)))) (aW uu (mK (.int 39373)) (aW b7 (mV 0) (mK (.int 0))))) (mK (.int 7))) (mK (.int 2147483629)))) (aI (bA 3 (aW mq (aW bI (aW uu (mV 3) (mV 3)) (aW uu (mK (.int 16807)) (mV 3))) (mK (.int 2147483587)))) (bz (aW mq (aW jc (mV 3) (mK (.int 8))) (mV 1))))))
def aJ:List D->M D:=lq 4 2 oQ
def fP:jF:=lN
def fQ:TM:=eT (ae (mV 1) (ae (mV 0) (ak)))
def g9:cV:=nj (vC m4 (mV 1) (aM (bC (F9 (aW bI (mV 2) (mK (.int 1))) (mV 0)) (gN 0) fP fQ [none,ar 2])))
def nv:cV:=aI (bA 1 (bh (ak))) (aI (i7 (ki (mV 0)) (gN 2) g9) (bz (mV 1)))
def bx:List D->M D:=lq 3 1 nv
def hU:jF:=lN
def hV:TM:=cN fE (aM (cN bZ (aM (bh (ae (aW b7 (mV 2) (mV 0)) (ae (aW b7 (mV 2) (mV 1)) (ak)))))))
def ny:cV:=bz (eT (ae (aW b7 (mV 0) (mK (.int 0))) (ae (cN fE (aM (cN bZ (aM (bC (ft (aW b7 (mV 0) (mK (.int 1)))) (gR 2 (bS (gN 0) (bS (gN 1) (ie)))) hU hV [none,none,ar 1]))))) (ak))))
def dZ:List D->M D:=lq 2 2 ny
def oR:cV:=bz (aW inD (eT (ae (aw minD (ae (mV 1) (ae (mV 2) (ak)))) (ae (aw maxD (ae (mV 1) (ae (mV 2) (ak)))) (ak)))) (aW b7 (mV 0) (mK (.int 1))))
def bU:List D->M D:=lq 3 3 oR
def nz:cV:=bz (qH (fH (mV 0) "int") (JP (fH (mV 0) "bool")))
def gi:List D->M D:=lq 1 1 nz
def qU:cV:=bz (qH (aw cY (ae (mV 1) (ak))) (HM Hm Bw (mK (.int 0)) (mV 1) (mV 0)))
def eX:List D->M D:=lq 2 2 qU
def jW:jF:=lN
def jX:TM:=aW il (aM (aw eV (ae (mV 1) (ae (mV 0) (ae (mV 2) (ak)))))) (aM (aw eV (ae (mV 3) (ae (aW b7 (mV 4) (mV 0)) (ae (mV 5) (ak))))))
def n5:cV:=aI (bA 4 (cN dW (mV 2))) (aI (gZ (c9 inD (mV 3) (mV 2)) (bz (mK (.bl dV))) (cG)) (bz (cN oY (aM (bC (ki (mV 4)) (gN 0) jW jX [none,ar 0,ar 4,ar 1,ar 2,ar 3])))))
def df:List D->M D:=lq 5 4 n5
def nA:cV:=aI (bA 2 (aw dE (ae (mV 0) (ae (mV 1) (ak))))) (aI (gZ (c9 Lu (mV 2) (aW vP (mK (.int 10)) (mK (.int 18)))) (bz (bh (ae (aW i5 (mV 2) (aW vP (mK (.int 10)) (mK (.int 18)))) (ae (mK (.bl b_)) (ak))))) (cG)) (bz (bh (ae (aW mq (mV 2) (mK (.int 2147483647))) (ae (mK (.bl dV)) (ak))))))
def gj:List D->M D:=lq 3 2 nA
def cL:cV:=nj (vC c8 (mV 3) (vC nX (mV 2) (aM (aw aJ (ae (mV 0) (ae (cN dW (mV 2)) (ak)))))))
def fx:cV:=aI (bA 2 (cN m3 (mV 1))) (aI (bA 3 (bh (ak))) (aI (HN 64 (c9 fV (mV 2) (aM (bh (ak)))) cL) (bz (mV 3))))
def bj:List D->M D:=lq 4 2 fx
def fF:cV:=aI (bA 4 (aM (aw aJ (ae (mV 0) (ae (mV 1) (ak)))))) (aI (bA 5 (aW mq (aW bI (aW bI (mV 4) (mK (.int 1))) (aM (aw aJ (ae (mV 0) (ae (aW i5 (mV 1) (mK (.int 1))) (ak)))))) (mV 1))) (nj (vC c8 (mV 2) (eT (ae (aw minD (ae (mV 4) (ae (mV 5) (ak)))) (ae (aw maxD (ae (mV 4) (ae (mV 5) (ak)))) (ak)))))))
def fy:cV:=aI (bA 1 (aW bI (mK (.int 8)) (aM (aw aJ (ae (mV 0) (ae (mK (.int 7)) (ak))))))) (aI (bA 2 (bh (ak))) (aI (i7 (ki (aM (aw aJ (ae (mV 0) (ae (mK (.int 12)) (ak)))))) (gN 3) fF) (bz (eT (ae (mV 1) (ae (cN fE (aM (cN ni (mV 2)))) (ak)))))))
def cn:List D->M D:=lq 6 1 fy
def gk:cV:=aI (bA 1 (bh (aB (mK .non) (aB (mK (.int 0)) (aB (mK (.tup [])) (aB (mK (.tup [.int 15,.tup []])) (aB (mK (.tup [.int (-1),.tup []])) (aB (mK (.tup [.bl b_,.tup []])) (aB (eT (ae (mK (.int 2)) (ae (bh (ak)) (ak)))) (aB (bh (ae (mK (.int 2)) (ae (mK (.tup [])) (ak)))) (aB (mK (.tup [.int 2,.tup [.tup [.int 1,.int 0]]])) (aB (mK (.tup [.int 2,.tup [.tup [.int 0,.int 0]]])) (aB (mK .emp) (aB (mK (.str "2:")) (ak))))))))))))))) (aI (bA 1 (aW bI (mV 1) (bh (aB (mK (.tup [.int 2,.tup [.tup [.int 0,.int 1],.tup [.int 0,.int 1]]])) (aB (mK (.tup [.int 3,.tup [.tup [.int 0,.int 2],.tup [.int 0,.int 1]]])) (aB (mK (.tup [.int 2,.tup [.tup [.int 0,.int 2]]])) (aB (mK (.tup [.int 2,.tup [.tup [.int 0,.bl b_]]])) (aB (mK (.tup [.int 2,.tup [.tup [.int 0,.int 1,.int 1]]])) (ak))))))))) (aI (bA 1 (aW bI (mV 1) (bh (aB (mK (.tup [.int 2,.tup [.int 0,.int 1]])) (aB (mK (.tup [.int 2,.non])) (aB (mK (.tup [.int 2,.tup [],.tup []])) (aB (mK (.tup [.int 2])) (aB (eT (ae (mK (.int 2)) (ae (eT (ae (bh (ae (mK (.int 0)) (ae (mK (.int 1)) (ak)))) (ak))) (ak)))) (aB (mK (.tup [.int 2,.tup [.non]])) (aB (mK (.tup [.str "2",.tup []])) (aB (mK (.tup [.int 0,.tup [.tup [.int 0,.int 1]]])) (ak)))))))))))) (bz (aW b7 (mV 1) (aw aJ (ae (mV 0) (ae (mK (.int 25)) (ak))))))))
def dF:List D->M D:=lq 2 1 gk
def cq:jF:=dM (bV (aM (aw gi (ae (mV 0) (ak)))))
def cu:TM:=mV 0
def dG:jF:=c9 fV (aM (aw bU (ae (mV 1) (ae (mV 0) (ae (mV 2) (ak)))))) (aM (aw bU (ae (mV 3) (ae (aW b7 (mV 4) (mV 0)) (ae (aW b7 (mV 4) (mV 2)) (ak))))))
def dH:TM:=mV 0
def fA:cV:=gZ (c9 fV (aM (bC (ki (mV 3)) (gN 0) dG dH [none,ar 0,ar 3,ar 1,ar 2])) (aM (bh (ak)))) (bz (mK (.bl dV))) (cG)
def lR:cV:=aI (gZ (tj (c9 fV (aW b7 (mV 0) (mK (.int 0))) (aW b7 (mV 1) (mK (.int 0)))) (tj (dM (bV (fH (mV 2) "tuple"))) (c9 fV (aM (bC (ft (mV 2)) (gN 0) cq cu [none])) (aM (bh (ak)))))) (bz (mK (.bl dV))) (cG)) (aI (gZ (c9 fV (aM (cN iO (mV 2))) (aM (cN bY (aW b7 (mV 0) (mK (.int 0)))))) (bz (mK (.bl dV))) (cG)) (aI (i7 (ki (aW b7 (mV 0) (mK (.int 0)))) (gN 3) fA) (bz (mK (.bl b_)))))
def eF:List D->M D:=lq 4 3 lR
def fR:jF:=c9 fV (aM (aw bU (ae (mV 1) (ae (mV 0) (ae (mV 2) (ak)))))) (aM (aw bU (ae (mV 3) (ae (aW b7 (mV 4) (mV 0)) (ae (mV 5) (ak))))))
def fS:TM:=mV 0
def eA:cV:=gZ (c9 qh (mV 6) (mV 5)) (aI (bA 7 (aM (bC (ki (mV 3)) (gN 0) fR fS [none,ar 0,ar 3,ar 1,ar 5,ar 6]))) (gZ (c9 il (mV 7) (aM (bh (ak)))) (nj (vC c8 (mV 4) (aM (aW bI (mV 5) (eT (ae (mV 6) (ak))))))) (cG))) (cG)
def hZ:cV:=i7 (ki (aW b7 (mV 0) (mK (.int 0)))) (gN 6) eA
def ia:cV:=aI (bA 4 (bh (ak))) (aI (i7 (ft (mV 2)) (gN 5) hZ) (bA 2 (mV 4)))
def iz:cV:=aI (gZ (c9 fV (aW b7 (mV 0) (mK (.int 0))) (aW b7 (mV 1) (mK (.int 0)))) (bz (mK .non)) (cG)) (aI (bA 2 (aM (bh (ae (mK (.tup [])) (ak))))) (aI (i7 (ki (aW b7 (mV 0) (mK (.int 0)))) (gN 3) ia) (bz (aW b7 (aM (aW bI (mV 2) (aM (bh (ae (mK .non) (ak)))))) (mK (.int 0))))))
def fB:List D->M D:=lq 8 2 iz
def jg:cV:=aI (wb 2 3 (ae (aM (aw aJ (ae (mV 0) (ae (aW bI (cN dW (mV 1)) (mK (.int 1))) (ak))))) (ae (aM (aw aJ (ae (mV 0) (ae (aW bI (cN dW (mV 1)) (mK (.int 1))) (ak))))) (ak)))) (aI (bA 4 (aW b7 (aM (bh (aB (cN dW (mV 1)) (aB (mK (.int (-1))) (aB (mK (.bl b_)) (aB (mK .non) (aB (mK (.str "0")) (aB (mK (.tup [.int 0])) (aB (mK (.int 0)) (aB (aW vP (mK (.int 10)) (mK (.int 29))) (ak))))))))))) (aM (aw aJ (ae (mV 0) (ae (mK (.int 8)) (ak))))))) (aI (bA 5 (aM (bh (aB (aM (aW bI (aM (aW bI (aM (mH (mV 1) (oN) (oS (mV 2)))) (eT (ae (mV 4) (ak))))) (aM (mH (mV 1) (oS (aW bI (mV 2) (mK (.int 1)))) (oN))))) (aB (aM (aW bI (aM (mH (mV 1) (oN) (oS (mV 2)))) (aM (mH (mV 1) (oS (aW bI (mV 2) (mK (.int 1)))) (oN))))) (aB (aM (aW bI (aM (aW bI (aM (mH (mV 1) (oN) (oS (mV 2)))) (eT (ae (mV 4) (ak))))) (aM (mH (mV 1) (oS (mV 2)) (oN))))) (aB (aM (cN m3 (mV 1))) (aB (mK .non) (ak))))))))) (aI (bA 5 (aM (aW bI (mV 5) (aM (bh (aB (aM (aW bI (aM (mH (mV 1) (oS (mV 2)) (oN))) (aM (mH (mV 1) (oN) (oS (mV 2)))))) (aB (aM (aW bI (aM (mH (mV 1) (oN) (oS (aw minD (ae (mV 2) (ae (mV 3) (ak))))))) (aM (CK (aM (mH (mV 1) (oS (aw minD (ae (mV 2) (ae (mV 3) (ak))))) (oN))))))) (aB (mK .emp) (aB (mK (.int 0)) (aB (aM (CK (mV 1))) (aB (eT (ae (mV 1) (ak))) (ak)))))))))))) (bz (aW b7 (mV 5) (aM (aw aJ (ae (mV 0) (ae (mK (.int 11)) (ak))))))))))
def di:List D->M D:=lq 6 2 jg
def qV:cV:=aI (gZ (dM (bV (aw dD (ae (mV 1) (ak))))) (bz (mK (.bl dV))) (cG)) (aI (qJ (mV 1) (gR 2 (bS (gN 2) (bS (gN 3) (ie))))) (bz (qH (aw eX (ae (mV 0) (ae (mV 2) (ak)))) (qH (aw eX (ae (mV 0) (ae (mV 3) (ak)))) (aW Bw (mV 2) (mV 3))))))
def kP:List D->M D:=lq 4 2 qV
def jt:jF:=c9 Bw (aM (aw aJ (ae (mV 1) (ae (mK (.int 8)) (ak))))) (aW b7 (aM (bh (ae (mK (.int 2)) (ae (mK (.int 4)) (ae (mK (.int 6)) (ak)))))) (aW mq (mV 2) (mK (.int 3))))
def ju:TM:=mV 0
def gK:cV:=nj (vC c8 (mV 4) (cN fE (aM (cN bZ (aM (bh (ae (aW b7 (mV 5) (mV 6)) (ae (aW b7 (mV 5) (aW b7 (aM (bh (aB (aW i5 (mV 6) (mK (.int 1))) (aB (aW i5 (mV 6) (mK (.int 1))) (aB (mK (.int 0)) (aB (aW jc (mV 6) (mK (.int 2))) (ak))))))) (aW i5 (mV 3) (mK (.int 3))))) (ak)))))))))
def fJ:jF:=c9 il (aM (aw aJ (ae (mV 1) (ae (mK (.int 12)) (ak))))) (mK (.int 0))
def fK:TM:=mV 0
def gL:jF:=c9 fV (aW inD (mV 0) (mV 1)) (aW inD (mV 0) (mV 2))
def gM:TM:=mV 0
def jY:cV:=aI (bA 2 (aw maxD (ae (mK (.int 0)) (ae (aW i5 (mV 1) (aW b7 (aM (bh (aB (mK (.int 0)) (aB (mK (.int 0)) (aB (mK (.int 1)) (aB (mK (.int 0)) (aB (mK (.int 2)) (aB (mK (.int 1)) (aB (mK (.int 3)) (aB (mV 1) (ak))))))))))) (aM (aw aJ (ae (mV 0) (ae (mK (.int 8)) (ak))))))) (ak))))) (aI (bA 3 (aM (aw aJ (ae (mV 0) (ae (mK (.int 7)) (ak)))))) (aI (bA 4 (bC (ft (aM (aw bx (ae (mV 2) (ak))))) (gN 0) jt ju [none,ar 0,ar 3])) (aI (bA 5 (aM (aw bj (ae (mV 0) (ae (aM (cN bY (mV 2))) (ak)))))) (aI (gZ (c9 yN (mV 3) (mK (.int 2))) (aI (bA 4 (bh (ak))) (aI (i7 (F9 (mK (.int 1)) (mV 2)) (gN 6) gK) (aI (gZ (ye (c9 il (mV 3) (mK (.int 4))) (c9 yN (mV 2) (mK (.int 2)))) (nj (vC c8 (mV 4) (cN fE (aM (cN bZ (aM (bh (ae (aW b7 (mV 5) (mK (.int 0))) (ae (aW b7 (mV 5) (aW i5 (mV 2) (mK (.int 1)))) (ak)))))))))) (cG)) (aI (bA 7 (aM (bC (ft (aM (aw bx (ae (mV 2) (ak))))) (gN 0) fJ fK [none,ar 0]))) (bA 4 (bC (ft (aM (aw bx (ae (mV 2) (ak))))) (gN 0) gL gM [none,ar 4,ar 7])))))) (cG)) (bz (eT (ae (mV 2) (ae (cN fE (aM (cN bZ (mV 4)))) (ak)))))))))
def d0:List D->M D:=lq 8 2 jY
def jh:jF:=lN
def ji:TM:=aM (aw kP (ae (mV 1) (ae (mV 0) (ak))))
def qW:cV:=aI (gZ (dM (bV (aM (aw dD (ae (mV 0) (ak)))))) (bz (mK (.bl dV))) (cG)) (aI (qJ (mV 0) (gR 2 (bS (gN 1) (bS (gN 2) (ie))))) (aI (gZ (tj (dM (bV (aM (aw cY (ae (mV 1) (ak)))))) (tj (dM (yd Hm Hm (mK (.int 0)) (mV 1) (mK (.int 14)))) (dM (bV (fH (mV 2) "tuple"))))) (bz (mK (.bl dV))) (cG)) (bz (qH (cN oY (aM (bC (ft (mV 2)) (gN 0) jh ji [none,ar 1]))) (aM (aw fY (ae (mV 2) (ak))))))))
def jH:List D->M D:=lq 3 1 qW
def jj:cV:=aI (bA 1 (aW b7 (aM (bh (ae (mK (.int 6)) (ae (mK (.int 6)) (ae (mK (.int 7)) (ak)))))) (aM (aw aJ (ae (mV 0) (ae (mK (.int 3)) (ak))))))) (aI (bA 2 (aM (aw d0 (ae (mV 0) (ae (mV 1) (ak)))))) (aI (bA 3 (aM (aw aJ (ae (mV 0) (ae (mK (.int 4)) (ak)))))) (aI (gZ (c9 il (mV 3) (mK (.int 0))) (bz (eT (ae (mV 2) (ae (aM (aw d0 (ae (mV 0) (ae (mV 1) (ak))))) (ak))))) (cG)) (aI (bA 4 (aM (aw dZ (ae (mV 2) (ae (aM (aw bj (ae (mV 0) (ae (aM (cN bY (aW b7 (mV 2) (mK (.int 0))))) (ak))))) (ak)))))) (aI (gZ (ye (c9 il (mV 3) (mK (.int 1))) (c9 yN (aW b7 (mV 2) (mK (.int 0))) (mK (.int 1)))) (bA 4 (eT (ae (aW b7 (mV 2) (mK (.int 0))) (ae (aM (mH (aW b7 (mV 4) (mK (.int 1))) (oN) (oS (aW jc (cN dW (aW b7 (mV 4) (mK (.int 1)))) (mK (.int 2)))))) (ak))))) (cG)) (bz (eT (ae (mV 2) (ae (mV 4) (ak))))))))))
def eY:List D->M D:=lq 5 1 jj
def qX:cV:=gZ (dM (bV (aM (aw jH (ae (mV 0) (ak)))))) (Ib "NoWeb" (ae (mK (.str "this is no web")) (ak))) (cG)
def b0:List D->M D:=qf 1 1 qX
def jk:cV:=aI (nj (aM (aw b0 (ae (mV 0) (ak))))) (gZ (c9 yN (aW b7 (mV 0) (mK (.int 0))) (mV 1)) (uR (ae (aW b7 (mV 0) (mK (.int 0))) (ae (mV 1) (ak)))) (cG))
def cB:List D->M D:=qf 2 2 jk
def jZ:jF:=c9 inD (mV 1) (mV 0)
def j4:TM:=mV 0
def j5:jF:=lN
def j6:TM:=cN dW (aM (bC (ft (mV 1)) (gN 0) jZ j4 [none,ar 0]))
def tE:cV:=aI (nj (aM (aw b0 (ae (mV 0) (ak))))) (aI (qJ (mV 0) (gR 2 (bS (gN 1) (bS (gN 2) (ie))))) (bz (aM (Ia (bC (ki (mV 1)) (gN 0) j5 j6 [none,ar 2])))))
def eI:List D->M D:=qf 3 1 tE
def lU:cV:=aI (nj (aM (aw b0 (ae (mV 0) (ak))))) (aI (nj (aM (aw b0 (ae (mV 1) (ak))))) (aI (nj (aM (aw cB (ae (mV 0) (ae (mK (.int 7)) (ak)))))) (nj (aM (aw cB (ae (mV 1) (ae (mK (.int 7)) (ak))))))))
def bq:List D->M D:=qf 2 2 lU
def iR(F:List D->M D):jF:=lN
def iS(F:List D->M D):TM:=aM (aw F (ae (mV 0) (ae (mV 1) (ak))))
def dj(F:List D->M D):cV:=aI (gZ (bV (F8 (mV 1) "tuple" "list")) (aI (gZ (tj (c9 fV (fH (mV 0) "tuple") (fH (mV 1) "tuple")) (c9 fV (fH (mV 0) "list") (fH (mV 1) "list"))) (bz (mK (.bl dV))) (cG)) (aI (gZ (c9 fV (cN dW (mV 0)) (cN dW (mV 1))) (bz (mK (.bl dV))) (cG)) (bz (cN oY (aM (bC (wy (mV 0) (mV 1)) (gR 2 (bS (gN 0) (bS (gN 1) (ie)))) (iR F) (iS F) [none,none])))))) (cG)) (bz (qH (aW il (mV 0) (mV 1)) (aW il (fH (mV 0) "bool") (fH (mV 1) "bool"))))
def cO:Nat->List D->M D
 |0=>fun _=>M.fail
 |n+1=>lq 2 2 (dj (cO n))
def dP:List D->M D:=cO 6
def gm:jF:=lN
def gn:TM:=aM (aw eX (ae (mV 1) (ae (mV 0) (ak))))
def iT:jF:=lN
def iU:TM:=aM (aw df (aB (mV 2) (aB (mV 3) (aB (aM (mH (mV 4) (oN) (oS (mV 0)))) (aB (mV 1) (ak))))))
def oU:cV:=aI (nj (aM (aw bq (ae (mV 0) (ae (mV 1) (ak)))))) (aI (bA 3 (aW b7 (mV 0) (mK (.int 0)))) (aI (gZ (tj (c9 fV (aW b7 (mV 1) (mK (.int 0))) (mV 3)) (tj (dM (bV (fH (mV 2) "tuple"))) (c9 fV (cN dW (mV 2)) (mV 3)))) (bz (mK (.bl dV))) (cG)) (aI (gZ (dM (bV (cN oY (aM (Ia (bC (ft (mV 2)) (gN 0) gm gn [none,ar 3])))))) (bz (mK (.bl dV))) (cG)) (bz (cN oY (aM (Ia (bC (Gc (mV 2)) (gR 2 (bS (gN 0) (bS (gN 1) (ie)))) iT iU [none,none,ar 0,ar 1,ar 2]))))))))
def dm:List D->M D:=qf 4 3 oU
def du(F:List D->M D):cV:=gZ (bV (aM (aw df (aB (mV 0) (aB (mV 1) (aB (mV 2) (aB (mV 4) (ak)))))))) (aI (bA 5 (aM (aw F (ae (mV 0) (ae (mV 1) (ae (aM (aW bI (mV 2) (eT (ae (mV 4) (ak))))) (ak))))))) (gZ (c9 (JJ (!·)) (mV 5) (mK .non)) (bz (mV 5)) (cG))) (cG)
def dI(F:List D->M D):cV:=aI (bA 3 (aW b7 (mV 0) (mK (.int 0)))) (aI (gZ (c9 il (cN dW (mV 2)) (mV 3)) (bz (mV 2)) (cG)) (aI (i7 (ki (mV 3)) (gN 4) (du F)) (bz (mK .non))))
def bP:Nat->List D->M D
 |0=>fun _=>M.fail
 |n+1=>lq 6 3 (dI (bP n))
def dJ:List D->M D:=bP 8
def wL:cV:=aI (nj (aM (aw bq (ae (mV 0) (ae (mV 1) (ak)))))) (aI (gZ (c9 fV (aM (cN bZ (aM (aw eI (ae (mV 0) (ak)))))) (aM (cN bZ (aM (aw eI (ae (mV 1) (ak))))))) (bz (mK .non)) (cG)) (bz (aM (aw dJ (ae (mV 0) (ae (mV 1) (ae (mK (.tup [])) (ak))))))))
def eZ:List D->M D:=qf 2 2 wL
def cC:jF:=bV (aW b7 (mV 1) (mV 0))
def cD:TM:=mV 0
def gp(fv:D)(cc:M D):cV:=aI (bA 1 (mK .non)) (aI (wt 0 2 1 fv cc) (aI (bA 3 (bh (ae (dC (mV 1) "NoWeb") (ae (dC (mV 1) "NoPlace") (ae (dC (mV 1) "NoPlaces") (ak)))))) (aI (bA 3 (aW bI (mV 3) (aM (bh (ae (dC (mV 1) "NoMap") (ae (dC (mV 1) "NoSharing") (ae (dC (mV 1) "NoRoot") (ak)))))))) (aI (bA 3 (aW bI (mV 3) (aM (bh (ae (dC (mV 1) "NoNumber") (ae (dC (mV 1) "NotJoined") (ae (dC (mV 1) "NoTie") (ak)))))))) (aI (bA 3 (aW bI (mV 3) (aM (bh (ae (dC (mV 1) "NoText") (ae (dC (mV 1) "NoLine") (ae (dC (mV 1) "NoDeed") (ak)))))))) (aI (nj (vC c8 (mV 3) (dC (mV 1) "TooGreat"))) (aI (gZ (dM (bV (C6 (mV 1)))) (bz (mK .non)) (cG)) (aI (bA 4 (aM (bC (ki (mK (.int 13))) (gN 0) cC cD [none,ar 3]))) (bz (Lz (c9 il (mV 4) (aM (bh (ae (mK (.int 12)) (ak))))) (aM (aW bI (mV 4) (aM (bh (ae (jG dV (mV 1)) (ae (jG b_ (mV 1)) (ak))))))) (mV 4)))))))))))
def bR:D->M D->List D->M D:=fun fv cc es=>qf 5 1 (gp fv cc) (fv::es)
def bc:M D->List D->M D:=bR (.fn 0 0 "" [] [])
def nB:jF:=lN
def nD:TM:=cN fE (aM (aw bj (ae (mV 1) (ae (aM (cN bY (aW b7 (mV 2) (mK (.int 0))))) (ak)))))
def qY:cV:=gZ (dM (bV (aM (aw dP (ae (aM (aw dm (ae (mV 3) (ae (mV 4) (ae (mV 8) (ak)))))) (ae (aM (aw eF (ae (mV 3) (ae (mV 4) (ae (mV 8) (ak)))))) (ak))))))) (bz (mK (.bl dV))) (cG)
def nE:cV:=i7 (ft (aM (bh (ae (mV 7) (ae (aM (aw di (ae (mV 2) (ae (mV 7) (ak))))) (ak)))))) (gN 8) qY
def qZ:TM:=aM (aw eZ (ae (mV 0) (ae (mV 1) (ak))))
def rf:TM:=aM (aw dm (ae (mV 0) (ae (mV 1) (ae (mK .non) (ak)))))
def rg:TM:=aM (aw eZ (ae (mV 0) (ae (mV 1) (ak))))
def rh:TM:=aM (aw dm (ae (mV 0) (ae (mV 1) (ae (mK .non) (ak)))))
def kQ:cV:=aI (bA 2 (aw gj (ae (mV 0) (ae (mV 1) (ak))))) (aI (qJ (aM (aw eY (ae (mV 2) (ak)))) (gR 2 (bS (gN 3) (bS (gN 4) (ie))))) (aI (bA 5 (aM (aw fB (ae (mV 3) (ae (mV 4) (ak)))))) (aI (gZ (dM (bV (aM (aw dP (ae (aM (aw eZ (ae (mV 3) (ae (mV 4) (ak))))) (ae (mV 5) (ak))))))) (bz (mK (.bl dV))) (cG)) (aI (bA 6 (aM (bC (ki (mK (.int 2))) (gN 0) nB nD [none,ar 2,ar 3]))) (aI (gZ (c9 (JJ (!·)) (mV 5) (mK .non)) (bA 6 (aM (aW bI (mV 6) (aM (bh (ae (mV 5) (ae (mV 5) (ak)))))))) (cG)) (aI (i7 (ft (mV 6)) (gN 7) nE) (aI (wb 9 10 (ae (aM (aw cn (ae (mV 2) (ak)))) (ae (aM (aw dF (ae (mV 2) (ak)))) (ak)))) (aI (gZ (c9 fV (aM (sh [3,9] (ak) qZ bc)) (aM (bh (ae (mK (.int 12)) (ae (aW b7 (mV 9) (mK (.int 0))) (ae (mK (.int 7)) (ak))))))) (bz (mK (.bl dV))) (cG)) (aI (gZ (c9 fV (aM (sh [9,3] (ak) rf bc)) (aM (bh (ae (mK (.int 12)) (ae (aW b7 (mV 9) (mK (.int 0))) (ae (mK (.int 7)) (ak))))))) (bz (mK (.bl dV))) (cG)) (aI (gZ (c9 fV (aM (sh [9,10] (ak) rg bc)) (aM (bh (ae (mK (.int 0)) (ak))))) (bz (mK (.bl dV))) (cG)) (gZ (c9 fV (aM (sh [10,9] (ak) rh bc)) (aM (bh (ae (mK (.int 0)) (ak))))) (bz (mK (.bl dV))) (cG))))))))))))
def Dl:cV:=aI (i7 (ki (aw maxD (ae (mK (.int 1)) (ae (aw minD (ae (cN dW (mV 0)) (ae (mK (.int 4)) (ak)))) (ak))))) (gN 1) kQ) (bz (aW il (aM (aw eZ (ae (mK (.tup [.int 7,.tup [.tup [.int 0,.int 1]]])) (ae (mK (.tup [.int 7,.tup [.tup [.int 5,.int 6]]])) (ak))))) (mK (.tup [.int 5,.int 6,.int 0,.int 1,.int 2,.int 3,.int 4]))))
def tF:List D->M D:=lq 11 1 Dl
theorem pq:2<=lim:=by unfold lim;omega
theorem Ii:3<=lim:=by unfold lim;omega
theorem JY:FZ (ar d::r) 0=aC d:=rfl
theorem JZ:FZ (o0::ar d::r) 1=aC d:=rfl
theorem J0:FZ (o0::o1::ar d::r) 2=aC d:=rfl
theorem J1:FZ (o0::o1::o2::ar d::r) 3=aC d:=rfl
theorem J2:FZ (o0::o1::o2::o3::ar d::r) 4=aC d:=rfl
theorem iA:gS S n (.int i)=ar (.int i):=by cases n<;>rfl
theorem kR:gS S n (.bl b)=ar (.bool b):=by cases n<;>rfl
theorem eq_int{Q:D->aF->Prop}:runs (il (.int a) (.int b)) S Q↔Q (.bl (decide (a=b))) S:=by
 unfold il;rw[dY iA iA];have:gg (.int a) (.int b)=decide (a=b):=by
  simp only[gg];rw[OD];simp
 rw[this]
theorem wM(l:List Bool):boolsOf (l.map D.bl)=ar l:=by
 induction l with
 |nil=>rfl
 |cons b l ih=>simp[boolsOf,ih]
theorem cM:(S++[xs])[S.length]? =ar xs:=by simp
theorem Gf{Q:D->aF->Prop}:runs (il (.bl a) (.bl b)) S Q↔Q (.bl (a==b)) S:=by
 unfold il;rw[dY kR kR];have:gg (.bool a) (.bool b)=(a==b):=by cases a<;>cases b<;>simp[gg]
 rw[this]
theorem Bb{Z:Type}(a:Z):pj (aC a:M Z)=aC a:=rfl
theorem Fi{Z Y:Type}{c:Prop} [Decidable c]{a b:M Z}{f:Z->M Y}:((if c then a else b)>>=f)=if c then a>>=f else b>>=f:=by split<;>rfl
theorem gq{Z:Type}(l:List Z):l.filter (fun _=>b_)=l:=List.filter_eq_self.mpr fun _ _=>rfl
theorem cZ{m:cV}{ds:List D}(h:m (ds.map ar++lu (N - n) none)=aC o)(Y:outD o=aC d)(Z:ds.length=n:=by rfl):lq N n m ds=aC d:=by
 unfold lq qf;rw[if_pos Z];show(pj (m _)>>=outD)=_;rw[h,Bb,au,Y]
theorem Dm{m n:TM}(Y:m ρ=aC x)(Z:n ρ=aC y):F9 m n ρ=lh [x,y]:=by
 have:ae m (ae n ak) ρ=aC [x,y]:=by unfold ae;rw[Y,au,Z,au];rfl
 unfold F9;rw[this,au]
theorem uS{m:TM}(Z:m ρ=aC x):ki m ρ=mw [x]:=by
 have:ae m ak ρ=aC [x]:=by unfold ae;rw[Z,au];rfl
 unfold ki;rw[this,au]
theorem J3(h: -(2 ^ 62)<=i/\i<2 ^ 62/\ -(2 ^ 62)<=j/\j<2 ^ 62):lh [.int i,.int j]=aC ⟨bu i (j - i).toNat,.none⟩:=by unfold lh;exact if_pos h
theorem Dn(h: -(2 ^ 62)<=j/\j<2 ^ 62):mw [.int j]=aC ⟨bu 0 j.toNat,.none⟩:=by unfold mw;exact if_pos h
theorem b9{f:D->D->M D}{m n:TM}(Z:m ρ=aC x)(Y:n ρ=aC y):aW f m n ρ=f x y:=by unfold aW;rw[Z,au,Y,au]
theorem eB{f:List D->M D}{m:TM}(h:m ρ=aC x):cN f m ρ=f [x]:=by
 have:ae m ak ρ=aC [x]:=by unfold ae;rw[h,au];rfl
 unfold cN aw;rw[this,au]
theorem eN{m:TM}(h:m ρ=aC x):bz m ρ=aC (.ret x):=by unfold bz;rw[h];rfl
theorem n6(bs:List Bool):b8 0 (bs.map D.bl)=true:=by
 induction bs with
 |nil=>rfl
 |cons x r ih=>rw[MU];unfold b8;rw[ih];unfold eU;rfl
theorem fL{mi:aP->M Iter}{g:nO}{t:jF}{m:TM}(R:aP->Prop)(q:D->Bool)(f:D->D)(hi:mi ρ=aC ⟨its,.none⟩)(Z:its.length<=lim)(W:R (mj js ρ))(Y:∀d∈its,∀ ρ,R ρ->∃ ρ1,g d ρ=aC ρ1/\R ρ1/\t ρ1=aC (q d)/\(q d=b_->m ρ1=aC (f d)))
  (X:b8 0 ((its.filter q).map f)=b_):aM (bC mi g t m js) ρ=aC (.fz ((its.filter q).map f)):=by
 have e:bC mi g t m js ρ=bD ((its.filter q).map f):=by
  unfold bC;rw[hi,au,zz R q f Z W Y,au]
 unfold aM;rw[e];exact bF X (by rw[Mq];exact ME (OE _ _) Z)
section
variable {m n:cV}{ρ ρ':aP}{e e1 e2:TM}{x y d:D}{t:jF}{b:Bool}{o:Out}{N k:Nat}{ds:List D}{F:List D->M D}
theorem aV(h:m ρ=aC (.nx ρ')):aI m n ρ=n ρ':=by unfold aI;rw[h];rfl
theorem cz(h:m ρ=aC (.ret d)):aI m n ρ=aC (.ret d):=by unfold aI;rw[h];rfl
theorem iV(h:m ρ=M.raise x):aI m n ρ=M.raise x:=by unfold aI;rw[h];rfl
theorem ke(h:e ρ=aC x):nj e ρ=aC (.nx ρ):=by unfold nj;rw[h];rfl
theorem jI(h:e ρ=M.raise x):nj e ρ=M.raise x:=by unfold nj;rw[h];rfl
theorem gF(h:e ρ=aC x):bA i e ρ=aC (.nx (ρ.set i (ar x))):=by unfold bA;rw[h];rfl
theorem bb(h:t ρ=aC b):gZ t m n ρ=if b=b_ then m ρ else n ρ:=by unfold gZ;rw[h];rfl
theorem bM{f:D->D->M D}(Z:e1 ρ=aC x)(Y:e2 ρ=aC y)(h:f x y=aC (.bl b)):c9 f e1 e2 ρ=aC b:=by
 unfold c9;rw[Z,au,Y,au,h];rfl
theorem e9(h:e ρ=aC x):aw F (ae e ak) ρ=F [x]:=eB h
theorem iZ(h:e ρ=aC x):aM e ρ=aC x:=by unfold aM;rw[h];exact Ff
theorem Eb(h:e ρ=M.raise x):aM e ρ=M.raise x:=by unfold aM;rw[h];exact Di
theorem iW(h:m (ds.map ar++lu (N - k) none)=aC o)(Z:outD o=aC d)(Y:ds.length=k:=by rfl):qf N k m ds=aC d:=by
 unfold qf;rw[if_pos Y,h,au,Z]
theorem fZ(h:m (ds.map ar++lu (N - k) none)=M.raise x)(Z:ds.length=k:=by rfl):qf N k m ds=M.raise x:=by
 unfold qf;rw[if_pos Z,h];rfl
end
theorem Bc:pj (bD us)=bD us:=by
 funext S;unfold pj bD;by_cases h:us.length<=lim
 ·rw[if_pos h]
 ·rw[if_neg h]
theorem rj{mi:aP->M Iter}{g:nO}{t:jF}{m:TM}(R:aP->Prop)(q:D->Bool)(f:D->D)(hi:mi ρ=aC ⟨its,.none⟩)(Z:its.length<=lim)(W:R (mj js ρ))(Y:∀d∈its,∀ ρ,R ρ->∃ ρ1,g d ρ=aC ρ1/\R ρ1/\t ρ1=aC (q d)/\(q d=b_->m ρ1=aC (f d)))
  (X:b8 0 ((its.filter q).map f)=b_):aM (Ia (bC mi g t m js)) ρ=aC (.fz ((its.filter q).map f)):=by
 have e:Ia (bC mi g t m js) ρ=bD ((its.filter q).map f):=by
  unfold Ia bC;rw[hi,au,zz R q f Z W Y,au,Bc]
 unfold aM;rw[e];exact bF X (by rw[Mq];exact ME (OE _ _) Z)
theorem call2{F:List D->M D}{e1 e2:TM}(Y:e1 ρ=aC x)(Z:e2 ρ=aC y):aw F (ae e1 (ae e2 ak)) ρ=F [x,y]:=by
 have:ae e1 (ae e2 ak) ρ=aC [x,y]:=by unfold ae;rw[Y,au,Z,au];rfl
 unfold aw;rw[this,au]
theorem ig{e:TM}(h:e ρ=aC (.bl b)):bV e ρ=aC b:=by unfold bV;rw[h];rfl
theorem rk{us:List D}(h:us.length<=lim):fE [.fz us]=aC (.tup us):=by
 show bK us=_;unfold bK;rw[if_pos h]
section
variable {α β:Type}{c:M α}{f:α->M β}{S S1:aF}{a:α}
theorem aO(h:c S=ar (.ok a,S1)):(c>>=f) S=f a S1:=by
 show M.bnd c f S=_;unfold M.bnd;rw[h]
end
section
variable {m n:cV}{ρ ρ':aP}{e e1 e2:TM}{x y:D}{S S1 S2:aF}{c:M D}{f:D->List D->M D}{F:List D->M D}
theorem aS(h:m ρ S=ar (.ok (.nx ρ'),S1)):aI m n ρ S=n ρ' S1:=aO h
theorem tG(h:e ρ S=ar (.ok x,S1)):nj e ρ S=ar (.ok (.nx ρ),S1):=aO h
theorem bN(h:e ρ S=ar (.ok x,S1)):bA i e ρ S=ar (.ok (.nx (ρ.set i (ar x))),S1):=aO h
theorem gr(h:e ρ S=ar (.ok x,S1)):bz e ρ S=ar (.ok (.ret x),S1):=aO h
theorem dv{us:List D}(h:us.length<=lim):bD us S=ar (.ok (.lst S.length),S++[us]):=by unfold bD;exact if_pos h
theorem eQ(h:S[p]? =ar us):getL p S=ar (.ok us,S):=by unfold getL;rw[h];rfl
theorem lB{us:List D}(h:us.length<=lim)(Z:p<S.length):lZ p us S=ar (.ok .non,S.set p us):=by unfold lZ;exact if_pos ⟨h,Z⟩
theorem J4(Y:e1 ρ=aC x)(Z:Ht x=aC ())(X:e2 ρ=c):vC f e1 e2 ρ=c>>=fun y=>f x [y]:=by
 unfold vC;rw[Y,au,Z,au,X,gz];rfl
theorem tH(h:e ρ S=ar (.ok x,S1)):cN F e ρ S=F [x] S1:=by
 unfold cN aw;rw[aO (a:=[x]) (S1:=S1)];show(e ρ>>=_) S=_;rw[aO h];rfl
theorem rl(Z:e1 ρ S=ar (.ok x,S1))(Y:e2 ρ S1=ar (.ok y,S2)):eT (ae e1 (ae e2 ak)) ρ S=ar (.ok (.tup [x,y]),S2):=by
 unfold eT;rw[aO (a:=[x,y]) (S1:=S2)]
 ·unfold bK;rw[if_pos (show[x,y].length<=lim from pq)];rfl
 ·show(e1 ρ>>=_) S=_;rw[aO Z];show(((e2 ρ>>=_)>>=_):M (List D)) S1=_;rw[aO (a:=[y]) (S1:=S2)]
  ·rfl
  ·rw[aO Y];rfl
end
theorem gO:eL ⟨its,.none⟩ g b [] ρ=aC (.nx ρ):=by
 unfold eL;rw[cX];rfl
theorem j8{g:nO}{b:cV}(h:g d ρ=aC ρ1)(Z:b ρ1 S=ar (.ok (.nx ρ2),S1)):eL ⟨its,.none⟩ g b (d::ds) ρ S=eL ⟨its,.none⟩ g b ds ρ2 S1:=by
 rw[eL,cX,au,h,au,aO Z]
theorem fW{m:cV}{ds:List D}(h:m (ds.map ar++lu (N - n) none) S=ar (.ok o,S1))(Y:outD o=aC d)(Z:ds.length=n:=by rfl):lq N n m ds S=ar (.ok d,S1):=by
 unfold lq qf;rw[if_pos Z,aO (a:=o) (S1:=S1),Y]
 ·rfl
 ·show pj (m _) S=_;unfold pj;rw[h]
theorem n8{mi:aP->M Iter}(hi:mi ρ=aC ⟨its,.none⟩)(h:eL ⟨its,.none⟩ g b its ρ S=ar (.ok o,S1)):i7 mi g b ρ S=ar (.ok o,S1):=by
 unfold i7;rw[hi,au];exact h
theorem Mj:il (.int i) (.int i)=aC (.bl b_):=bp fun S=>eq_int.mpr ⟨by rw[MF rfl],rfl⟩
theorem LD:il (.bl b) (.bl b)=aC (.bl b_):=bp fun S=>Gf.mpr ⟨by rw[beq_self_eq_true],rfl⟩
theorem LX:fV (.bl b) (.bl b)=aC (.bl dV):=bp fun S=>by
 unfold fV;refine(dY kR kR).mpr ⟨?_,rfl⟩;cases b<;>rfl
theorem Ml:fV (.int i) (.int i)=aC (.bl dV):=bp fun S=>by
 unfold fV;refine(dY iA iA).mpr ⟨?_,rfl⟩;simp[gg]
theorem oa{bs:List Bool}:oY [.fz (bs.map D.bl)]=aC (.bl (bs.all id)):=by
 show(match boolsOf (bs.map D.bl)with|some bs=>(aC (D.bl (bs.all id)):M D)|none=>M.fail)=_
 rw[wM]
theorem wO:∀{xs:List D},d∈(xs.zip xs).map (fun p:D×D=>D.tup [p.1,p.2])->∃x∈xs,d= .tup [x,x]
 | x::r,h=>by
  rw[PR,MU,MK]at h;rcases h with rfl|h
  ·exact⟨x,.head _,rfl⟩
  ·obtain⟨y,Z,e⟩:=wO h;exact⟨y,.tail _ Z,e⟩
theorem aQ{e:TM}{es:aP->M (List D)}(Z:e ρ=aC x)(Y:es ρ=aC ys):ae e es ρ=aC (x::ys):=by
 unfold ae;rw[Z,au,Y];rfl
theorem wQ{g:nO}{t:aP->M Bool}{m:TM}(R:aP->Prop)(q:D->Bool):∀(items:List D) (ρ:aP),R ρ->(∀d∈items,∀ ρ,R ρ->∃Z,g d ρ=aC Z/\R Z/\t Z S=ar (.ok (q d),S)/\m Z=aC d)->
  cR ⟨its,.none⟩ g t m items ρ S=ar (.ok (items.filter q),S)
 |[],ρ,_,_=>by unfold cR;rw[cX];rfl
 |d::ds,ρ,hR,hb=>by
  obtain⟨Z,e1,Y,e2,U⟩:=hb d (MH ..) ρ hR;have X:=wQ (its:=its) R q ds Z Y fun x W=>hb x (My _ W);unfold cR;rw[cX,au,e1,au,aO e2];cases hq:q d with
  |true=>rw[NX hq,if_pos rfl,U,au,aO X];rfl
  |false=>rw[NY (by rw[hq];decide),if_neg (by decide),X]
section
variable {e1 e2:TM}{f:D->D->M D}{x y:D}{S S1 S2:aF}{ρ:aP}{F:List D->M D}
theorem gw(Z:e1 ρ S=ar (.ok x,S1))(Y:e2 ρ S1=ar (.ok y,S2)):aW f e1 e2 ρ S=f x y S2:=by
 unfold aW;rw[aO Z,aO Y]
theorem cA{es:aP->M (List D)}(Z:e1 ρ S=ar (.ok x,S1))(Y:es ρ S1=ar (.ok ys,S2)):ae e1 es ρ S=ar (.ok (x::ys),S2):=by
 unfold ae;rw[aO Z,aO Y];rfl
theorem Do(h:S[p]? =ar us)(Z:k9 us j=ar x):b7 (.lst p) (.int j) S=ar (.ok x,S):=by
 show(getL p>>=fun xs=>match k9 xs j with|some d=>(aC d:M D)|none=>M.fail) S=_
 rw[aO (eQ h),Z];rfl
theorem og{es:aP->M (List D)}(h:es ρ S=ar (.ok ys,S1))(Z:ys.length<=lim):bh es ρ S=ar (.ok (.lst S1.length),S1++[ys]):=by
 unfold bh;rw[aO h];exact dv Z
theorem zA(Y:S[a]? =ar xs)(X:S[b]? =ar ys)(Z:(xs++ys).length<=lim):bI (.lst a) (.lst b) S=ar (.ok (.lst S.length),S++[xs++ys]):=by
 show(getL a>>=fun xs=>getL b>>=fun ys=>bD (xs++ys)) S=_;rw[aO (eQ Y),aO (eQ X)];exact dv Z
end
def ib:D->Bool
 | .int _=>b_
 |_=>dV
abbrev Dp(d:D):Prop:=vU d=b_
def rm:D->Bool
 | .tup [_,_]=>b_
 |_=>dV
def cQ(many:Int):D->Bool
 | .int i=>decide (0<=i) && decide (i<many)
 |_=>dV
def kl(many:Int):D->Bool
 | .tup [a,b]=>cQ many a && (cQ many b && match a,b with| .int i,.int j=>decide (i<j)|_,_=>dV)
 |_=>dV
def LF(d:D):Prop:=Dp d/\∀ds,d= .tup ds->∀x∈ds,Dp x
theorem jJ(h:cQ many d=b_):∃i,d= .int i/\0<=i/\i<many:=by
 cases d with
 |int i=>exact⟨i,rfl,by simpa [cQ]using h⟩
 |_=>cases h
def uT:D->D->Bool
 | .tup xs,.tup ys=>match intsOf xs,intsOf ys with
  |some a,ar b=>HT.lexLt a b
  |_,_=>dV
 |_,_=>dV
def uU:List D->Bool
 |a::b::r=>uT a b && uU (b::r)
 |_=>b_
def zB(d:D):Prop:=∃ds ns,d= .tup ds/\intsOf ds=ar ns
theorem zF:∀l:List D,((l.zip (l.drop 1)).map fun p=>uT p.1 p.2).all id=uU l
 |[]=>rfl
 |[_]=>rfl
 |a::b::r=>by
  have:=zF (b::r);simp only[List.drop_succ_cons,QM,List.zip_cons_cons,G4,Q6,id]at this⊢;rw[uU, <-this]
theorem LG(l:List D):S3.cutD l (ar 1) none=l.drop 1:=by
 unfold S3.cutD HT.sIx;cases l with
 |nil=>rfl
 |cons a r=>simp
def KG(d:D):Prop:=Dp d/\∀ds,d= .tup ds->∀x∈ds,Dp x/\∀ts,x= .tup ts->∀t∈ts,LF t
def i9:D->Bool
 | .tup [.int many,.tup ties]=>decide (0<=many) && (decide (many<=14) && (ties.all (kl many) && uU ties))
 |_=>dV
theorem Fj(h:kl many d=b_):∃i j,d= .tup [.int i,.int j]/\0<=i/\i<j/\j<many:=by
 unfold kl at h;split at h
 ·next a b=>
  simp only[i_]at h;obtain⟨W,U,Z⟩:=h;obtain⟨i,rfl,X,S⟩:=jJ W;obtain⟨j,rfl,T,Y⟩:=jJ U;simp only[decide_eq_true_eq]at Z;exact⟨i,j,rfl,X,Z,Y⟩
 ·cases h
theorem Bd(h:kl many d=b_):zB d:=by
 obtain⟨i,j,rfl,_⟩:=Fj h;exact⟨_,[i,j],rfl,rfl⟩
section
variable {many:Int}{d:D}{ρ:aP}{e1 e2:TM}{b:Bool}{y:D}
theorem and_eq(Y:e1 ρ=aC (.bl b))(X:b=b_->e2 ρ=aC y)(Z:b=dV->y= .bl dV):qH e1 e2 ρ=aC y:=by
 unfold qH;rw[Y];cases b with
 |true=>exact X rfl
 |false=>rw[Z rfl];rfl
theorem IT{a b:Int}:il (.int a) (.int b)=aC (.bl (decide (a=b))):=bp fun S=>eq_int.mpr ⟨rfl,rfl⟩
theorem uV(h:Dp d):cY [d]=aC (.bl (ib d)):=by
 cases d<;>first|rfl|cases h
theorem uW(h:Dp d):dD [d]=aC (.bl (rm d)):=by
 cases d with
 |tup ds=>
  refine cZ (eN (and_eq (b:=b_) rfl (fun _=>(b9 (y:=.int 2) (eB (x:=.tup ds) rfl) rfl).trans IT) (fun e=>by cases e))) ?_
  show aC (D.bl (decide ((ds.length:Int)=2)))=_
  match ds with
  |[]=>rfl
  |[_]=>rfl
  |[_,_]=>rfl
  |_::_::_::r=>rw[MP (by simp only[rn];omega)];rfl
 |_=>first|rfl|cases h
theorem uX(h:Dp d):eX [.int many,d]=aC (.bl (cQ many d)):=by
 cases d with
 |int i=>
  refine cZ (eN (and_eq (b:=b_) ((e9 rfl).trans (uV h)) (fun _=>?_) (fun e=>by cases e))) rfl
  show(if decide (0<=i)=b_ then (aC (D.bl (decide (i<many))):M D)else aC (.bl dV))=aC (.bl (decide (0<=i) && decide (i<many)));by_cases h0:0<=i
  ·rw[if_pos (MF h0),MF h0,NF]
  ·rw[if_neg (by rw[Nh];exact h0),MP h0,NA]
 |_=>first|rfl|cases h
theorem zG(h:rm d=b_):∃a b,d= .tup [a,b]:=by
 unfold rm at h;split at h
 ·exact⟨_,_,rfl⟩
 ·cases h
theorem uY{b:D}:kl many (.tup [a,b])=(cQ many a && (cQ many b && match a,b with| .int i,.int j=>decide (i<j)|_,_=>dV)):=rfl
theorem Ij(h:LF d):kP [.int many,d]=aC (.bl (kl many d)):=by
 by_cases hp:rm d=b_
 ·obtain⟨a,b,rfl⟩:=zG hp;have X:Dp a:=h.2 _ rfl a (.head _);have W:Dp b:=h.2 _ rfl b (.tail _ (.head _));refine cZ (o:=.ret (.bl (kl many (.tup [a,b])))) ?_ rfl;unfold qV;have Y:dM (bV (aw dD (ae (mV 1) ak))) [ar (.int many),ar (.tup [a,b]),none,none]=aC false:=by
   show(bV _ _>>=_)=_;rw[ig ((e9 rfl).trans (uW h.1))];rfl
  refine(aV (ρ':=[ar (.int many),ar (.tup [a,b]),none,none]) ((bb Y).trans (if_neg (by decide)))).trans ((aV (ρ':=[ar (.int many),ar (.tup [a,b]),ar a,ar b]) rfl).trans (eN ?_))
  refine and_eq (b:=cQ many a) ((call2 rfl rfl).trans (uX X)) (fun k1=>and_eq (b:=cQ many b) ((call2 rfl rfl).trans (uX W)) (fun k2=>?_) fun k2=>?_) fun k1=>?_
  ·obtain⟨i,rfl,_⟩:=jJ k1;obtain⟨j,rfl,_⟩:=jJ k2;rw[uY,k1,k2];rfl
  ·rw[uY,k2,NA,P3]
  ·rw[uY,k1,NA]
 ·have Z:rm d=false:=by rw[<-OR];exact hp
  have Y:dM (bV (aw dD (ae (mV 1) ak))) [ar (.int many),ar d,none,none]=aC true:=by
   show(bV _ _>>=_)=_;rw[ig ((e9 rfl).trans (uW h.1)),Z];rfl
  refine(cZ (o:=.ret (.bl dV)) (cz ((bb Y).trans (if_pos rfl))) rfl).trans ?_;unfold kl;split
  ·cases hp rfl
  ·rfl
theorem Ik{a b:D}(Z:zB a)(Y:zB b):Bw a b=aC (.bl (uT a b)):=by
 obtain⟨xs,ns,rfl,e1⟩:=Z;obtain⟨ys,ms,rfl,e2⟩:=Y;simp only[Bw,e1,e2,uT]
def LY:D->D
 | .tup [a,b]=>.bl (uT a b)
 |_=>.non
theorem Dq(h:∀t∈ts,zB t)(X:ts.length<=1000):fY [.tup ts]=aC (.bl (uU ts)):=by
 have em:(((ts.zip (ts.drop 1)).map fun p:D×D=>D.tup [p.1,p.2]).filter fun _=>b_).map LY=((ts.zip (ts.drop 1)).map fun p=>uT p.1 p.2).map D.bl:=by
  rw[gq,MZ,MZ];rfl
 have hs:aM (mH (mV 0) (oS (mK (.int 1))) oN) [ar (.tup ts)]=aC (.tup (ts.drop 1)):=by
  refine iZ (?_ :bK (S3.cutD ts (ar 1) none)=_);rw[LG];unfold bK;exact if_pos (by rw[Qy];unfold lim;omega)
 have hi:wy (mV 0) (aM (mH (mV 0) (oS (mK (.int 1))) oN)) [ar (.tup ts)]=aC ⟨(ts.zip (ts.drop 1)).map fun p:D×D=>D.tup [p.1,p.2],.none⟩:=by
  unfold wy;rw[aQ (x:=.tup ts) rfl (aQ hs rfl)];rfl
 have Z:=fL (g:=gR 2 (bS (gN 0) (bS (gN 1) ie))) (t:=iP) (m:=iQ) (js:=[none,none]) (fun ρ=>∃x y,ρ=[x,y]) (fun _=>b_) LY hi (by rw[Mq,List.length_zip];unfold lim;omega) ⟨none,none,rfl⟩
  (fun d hd ρ ⟨x,y,hρ⟩=>by
   subst hρ;obtain⟨⟨a,b⟩,Y,rfl⟩:=MJ.mp hd;exact⟨_,rfl,⟨_,_,rfl⟩,rfl,fun _=>(b9 (x:=a) (y:=b) rfl rfl).trans (Ik (h a (OX Y).1) (h b (List.mem_of_mem_drop (OX Y).2)))⟩) (by rw[em];exact n6 _)
 rw[em]at Z;refine cZ (eN ((eB Z).trans oa)) ?_;rw[zF];rfl
theorem Il(h:KG d)(W:∀m ts,d= .tup [m,.tup ts]->ts.length<=1000):jH [d]=aC (.bl (i9 d)):=by
 by_cases hp:rm d=b_
 ·obtain⟨a,t,rfl⟩:=zG hp;obtain⟨N,_⟩:=h.2 _ rfl a (.head _);obtain⟨O,S⟩:=h.2 _ rfl t (.tail _ (.head _));refine cZ (o:=.ret (.bl (i9 (.tup [a,t])))) ?_ rfl;unfold qW;have P:dM (bV (aM (aw dD (ae (mV 0) ak)))) [ar (.tup [a,t]),none,none]=aC false:=by
   show(bV _ _>>=_)=_;rw[ig (iZ ((e9 rfl).trans (uW h.1)))];rfl
  refine(aV (ρ':=[ar (.tup [a,t]),none,none]) ((bb P).trans (if_neg (by decide)))).trans ((aV (ρ':=[ar (.tup [a,t]),ar a,ar t]) rfl).trans ?_)
  have hw:dM (bV (aM (aw cY (ae (mV 1) ak)))) [ar (.tup [a,t]),ar a,ar t]=aC (!ib a):=by
   show(bV _ _>>=_)=_;rw[ig (iZ ((e9 rfl).trans (uV N)))];rfl
  have X:∀{p q:jF} {b:Bool} {ρ:aP},p ρ=aC b->tj p q ρ=if b=b_ then aC b_ else q ρ:=fun{p q b ρ} e=>by
   show(p ρ>>=_)=_;rw[e];rfl
  have no:∀{q:jF},tj (dM (bV (aM (aw cY (ae (mV 1) ak))))) q [ar (.tup [a,t]),ar a,ar t]=aC b_->aI (gZ (tj (dM (bV (aM (aw cY (ae (mV 1) ak))))) q) (bz (mK (.bl dV))) cG) (bz (qH (cN oY (aM (bC (ft (mV 2)) (gN 0) jh ji [none,ar 1]))) (aM (aw fY (ae (mV 2) ak))))) [ar (.tup [a,t]),ar a,ar t]=aC (.ret (.bl dV)):=fun e=>cz ((bb e).trans (if_pos rfl));by_cases ew:ib a=b_
  ·cases a with
   | int many=>
    rw[ew]at hw;have T:dM (yd Hm Hm (mK (.int 0)) (mV 1) (mK (.int 14))) [ar (.tup [.int many,t]),ar (.int many),ar t]=aC (!(decide (0<=many) && decide (many<=14))):=by
     show(((if decide (0<=many)=b_ then (aC (D.bl (decide (many<=14))):M D)else aC (.bl dV))>>=lG)>>=_)=_;by_cases h0:0<=many
     ·rw[if_pos (MF h0),MF h0,NF];rfl
     ·rw[if_neg (by rw[Nh];exact h0),MP h0,NA];rfl
    by_cases hr:(decide (0<=many) && decide (many<=14))=b_
    ·rw [hr]at T;cases t with
     | tup ts=>
      have R:=W _ ts rfl;have L:tj (dM (bV (aM (aw cY (ae (mV 1) ak))))) (tj (dM (yd Hm Hm (mK (.int 0)) (mV 1) (mK (.int 14)))) (dM (bV (fH (mV 2) "tuple")))) [ar (.tup [.int many,.tup ts]),ar (.int many),ar (.tup ts)]=aC false:=by
       rw[X hw,if_neg (by decide),X T,if_neg (by decide)];rfl
      refine(aV ((bb L).trans (if_neg (by decide)))).trans (eN ?_)
      have em:(ts.filter fun _=>b_).map (fun d=>D.bl (kl many d))=(ts.map (kl many)).map D.bl:=by rw[gq,MZ];rfl
      have hm:=fL (mi:=ft (mV 2)) (ρ:=[ar (.tup [.int many,.tup ts]),ar (.int many),ar (.tup ts)]) (g:=gN 0) (t:=jh) (m:=ji) (js:=[none,ar 1]) (its:=ts) (fun ρ=>∃x,ρ=[x,ar (.int many)]) (fun _=>b_) (fun d=>.bl (kl many d)) rfl (by unfold lim;omega) ⟨none,rfl⟩
       (fun d hd ρ ⟨x,hρ⟩=>by
        subst hρ;exact⟨_,rfl,⟨_,rfl⟩,rfl,fun _=>iZ ((call2 (x:=.int many) (y:=d) rfl rfl).trans (Ij (S ts rfl d hd)))⟩) (by rw[em];exact n6 _)
      rw[em]at hm;have U:(ts.map (kl many)).all id=ts.all (kl many):=by rw[Ox];rfl
      have Y:i9 (.tup [.int many,.tup ts])=(ts.all (kl many) && uU ts):=by
       show(decide (0<=many) && (decide (many<=14) && (ts.all (kl many) && uU ts)))=_;rw[<-Bool.and_assoc,hr,NF]
      rw[Y];refine and_eq (b:=ts.all (kl many)) ((eB hm).trans (oa.trans (by rw[U]))) (fun Z=>?_) fun Z=>by rw[Z];rfl
      rw[Z,NF];exact iZ ((e9 rfl).trans (Dq (fun t O=>Bd (MM.mp Z t O)) R))
     |_=>first|exact no (by rw[X hw,if_neg (by decide),X T,if_neg (by decide)];rfl)|cases O
    ·have Y:i9 (.tup [.int many,t])=false:=by
      cases t<;>first|rfl|(show(decide (0<=many) && (decide (many<=14) && _))=dV;rw[<-Bool.and_assoc,OR _ |>.mp hr,NA])
     rw[Y];rw[OR _ |>.mp hr]at T;exact no (by rw[X hw,if_neg (by decide),X T];rfl)
   |_=>cases ew
  ·have Y:i9 (.tup [a,t])=false:=by cases a<;>first|rfl|exact absurd rfl ew
   rw[Y];exact no (by rw[X hw,OR _ |>.mp ew];rfl)
 ·have Q:rm d=false:=by rw[<-OR];exact hp
  have P:dM (bV (aM (aw dD (ae (mV 0) ak)))) [ar d,none,none]=aC true:=by
   show(bV _ _>>=_)=_;rw[ig (iZ ((e9 rfl).trans (uW h.1))),Q];rfl
  refine(cZ (o:=.ret (.bl dV)) (cz ((bb P).trans (if_pos rfl))) rfl).trans ?_;unfold i9;split
  ·cases hp rfl
  ·rfl
end
def d9(S:aF)(k:Nat):Prop:=∃st b,S[k]? =ar [.int st,.bl b]/\0<=st/\(b=dV->st<2147483647)
theorem d9.lt{S:aF}{k:Nat}(h:d9 S k):k<S.length:=let ⟨_,_,e,_⟩:=h;(Mv.mp e).1
theorem Gg{t:jF}{m n:cV}{ρ:aP}{b:Bool}{S S1:aF}(h:t ρ S=ar (.ok b,S1)):gZ t m n ρ S=if b=b_ then m ρ S1 else n ρ S1:=by
 show(t ρ>>=fun c=>if c=b_ then m ρ else n ρ) S=_;rw[aO h];split<;>rfl
section
variable {S:aF}{k:Nat}{st x y many:Int}{b:Bool}{r:List (Option D)}{e1 e2:TM}{ρ:aP}
theorem IU(e:S[k]? =ar [.int st,.bl b]):aW b7 (mV 0) (mK (.int 0)) (ar (.lst k)::r) S=ar (.ok (.int st),S):=Do e rfl
theorem jq(Z:e1 ρ S=ar (.ok (.int x),S))(Y:e2 ρ S=ar (.ok (.int y),S))(h:0<y):aW mq e1 e2 ρ S=ar (.ok (.int (x % y)),S):=
 (gw Z Y).trans (MT (if_pos h:(if 0<y then (aC (D.int (x % y)):M D)else M.fail)=_) S)
theorem rp(Z:e1 ρ S=ar (.ok (.int x),S))(Y:e2 ρ S=ar (.ok (.int y),S))(h:xt x y):aW uu e1 e2 ρ S=ar (.ok (.int (x*y)),S):=
 (gw Z Y).trans (MT (if_pos h:(if xt x y then (aC (D.int (x*y)):M D)else M.fail)=_) S)
theorem Ds(Z:e1 ρ S=ar (.ok (.int x),S))(Y:e2 ρ S=ar (.ok (.int y),S))(h:xr x y):aW jc e1 e2 ρ S=ar (.ok (.int (x / y)),S):=
 (gw Z Y).trans (MT (if_pos h:(if xr x y then (aC (D.int (x / y)):M D)else M.fail)=_) S)
theorem uZ(Z:e1 ρ S=ar (.ok (.int x),S))(Y:e2 ρ S=ar (.ok (.int y),S)):aW bI e1 e2 ρ S=ar (.ok (.int (x+y)),S):=(gw Z Y).trans rfl
theorem J5(e:S[k]? =ar [.int st,.bl b])(h:e1 (ar (.lst k)::r) S=ar (.ok (.int x),S)):qJ e1 (KC (mV 0) (mK (.int 0))) (ar (.lst k)::r) S=ar (.ok (.nx (ar (.lst k)::r)),S.set k [.int x,.bl b]):=by
 have hi:kE (.lst k) (.int 0) (.int x) S=ar (.ok (),S.set k [.int x,.bl b]):=by
  show(getL k>>=_) S=_;rw[aO (eQ e)];exact aO (lB (us:=[.int x,.bl b]) pq (Mv.mp e).1)
 have Z:KC (mV 0) (mK (.int 0)) (.int x) (ar (.lst k)::r) S=ar (.ok (ar (.lst k)::r),S.set k [.int x,.bl b]):=aO hi;show(e1 _>>=_) S=_;rw[aO h];exact aO Z
theorem nF{m n:cV}{d:D}{S1:aF}(h:m ρ S=ar (.ok (.ret d),S1)):aI m n ρ S=ar (.ok (.ret d),S1):=aO h
end
theorem Im{S:aF}{k:Nat}{many:Int}{Q:D->aF->Prop}(hs:d9 S k)(Y:0<many)(N:many<1073741824)
  (X:∀j S',0<=j->j<many->S'.length=S.length->(∀i,i≠k->S'[i]? =S[i]?)->d9 S' k->Q (.int j) S'):runs (aJ [.lst k,.int many]) S Q:=by
 have R:=hs.lt;obtain⟨st,b,e,P,O⟩:=hs;have q:∀x:Int,0<=x % many/\x % many<many:=fun x=>⟨Oy _ (by omega),N6 _ Y⟩
 have U:bV (aW b7 (mV 0) (mK (.int 1))) [ar (.lst k),ar (.int many),none,none] S=ar (.ok b,S):=aO (Do (x:=.bl b) e rfl);have Z:∀(ys:List D) i,i≠k->(S.set k ys)[i]? =S[i]? :=fun ys i hi=>Nv (kr hi);cases b with
 |true=>
  refine⟨_,_,fW (o:=.ret (.int (st % many))) (S1:=S.set k [.int (st / many),.bl b_]) ?_ rfl,X _ _ (q _).1 (q _).2 (by simp) (Z _) ⟨_,b_,M9 R,Int.ediv_nonneg P (by omega),fun z=>by cases z⟩⟩
  exact nF ((Gg U).trans ((aS (bN (jq (IU e) rfl Y))).trans ((aS (J5 e (Ds (IU e) rfl ⟨Y,N⟩))).trans (gr rfl))))
 |false=>
  have K:=O rfl;generalize hst:(st*48271+29) % 2147483647=st';have s1:0<=st':=by rw[<-hst];exact Oy _ (by decide)
  have s2:st'<2147483647:=by rw[<-hst];exact N6 _ (by decide)
  have e1:(S.set k [.int st',.bl dV])[k]? =ar [.int st',.bl dV]:=M9 R;have W:=J5 (r:=[ar (.int many),none,none]) e (jq (uZ (rp (IU e) (e2:=mK (.int 48271)) rfl (.inr ⟨by decide,by decide⟩)) (e2:=mK (.int 29)) rfl) (e2:=mK (.int 2147483647)) rfl (by decide))
  rw[hst]at W;have T:∀r,aW mq (aW bI (aW bI (aW uu (aW b7 (mV 0) (mK (.int 0))) (aW b7 (mV 0) (mK (.int 0)))) (aW uu (mK (.int 39373)) (aW b7 (mV 0) (mK (.int 0))))) (mK (.int 7))) (mK (.int 2147483629)) (ar (.lst k)::r) (S.set k [.int st',.bl dV])=_:=fun r=>jq (uZ (uZ (rp (IU e1) (IU e1) (.inl ⟨by omega,by omega⟩)) (rp rfl (IU e1) (.inl ⟨by decide,by decide⟩))) rfl) rfl (by decide)
  generalize hx:(st'*st'+39373*st'+7) % 2147483629=x at T;have L:0<=x:=by rw[<-hx];exact Oy _ (by decide)
  have J:x<2147483629:=by rw[<-hx];exact N6 _ (by decide)
  refine⟨_,_,fW (o:=.ret (.int ((x*x+16807*x) % 2147483587 / 8 % many))) (S1:=S.set k [.int st',.bl dV]) ?_ rfl,X _ _ (q _).1 (q _).2 (by simp) (Z _) ⟨_,dV,e1,s1,fun _=>s2⟩⟩
  exact(aS (Gg U)).trans ((aS W).trans ((aS (bN (T _))).trans ((aS (bN (jq (uZ (rp rfl rfl (.inl ⟨by omega,by omega⟩)) (rp rfl rfl (.inl ⟨by decide,by decide⟩))) rfl (by decide)))).trans (gr (jq (Ds rfl rfl ⟨by decide,by decide⟩) rfl Y)))))
theorem Io{S:aF}{ns:List Int}{k:Nat}:∃i,dE [.ro (ns.map D.int),.int k] S=ar (.ok (.int i),S):=by
 have Z:c9 Bw (mV 1) (cN dW (mV 0)) [ar (.ro (ns.map D.int)),ar (.int k)]=aC (decide ((k:Int)<(ns.map D.int).length)):=bM (x:=.int k) (y:=.int (ns.map D.int).length) rfl rfl rfl;by_cases h:k<ns.length
 ·refine⟨ns[k],fW (o:=.ret (.int ns[k])) (nF ((MT ((bb Z).trans (if_pos (MF (by rw[Mq];omega)))) S).trans (gr (x:=.int ns[k]) (S1:=S) ?_))) rfl⟩
  have e:k9 (ns.map D.int) (k:Int)=ar (.int ns[k]):=by
   unfold k9 As;simp[h]
  show(match k9 (ns.map D.int) k with|some d=>(aC d:M D)|none=>M.fail) S=_
  rw[e];rfl
 ·exact⟨0,fW (o:=.ret (.int 0)) (MT ((aV ((bb Z).trans (if_neg (by rw[Nh,Mq];omega)))).trans rfl) S) rfl⟩
theorem Fk{S:aF}{ns:List Int}{k:Nat}{Q:D->aF->Prop}(Y:∀xs,d9 (S++[xs]) S.length->Q (.lst S.length) (S++[xs])):runs (gj [.ro (ns.map D.int),.int k]) S Q:=by
 obtain⟨c,U⟩:=Io (S:=S) (ns:=ns) (k:=k);have W:bA 2 (aw dE (ae (mV 0) (ae (mV 1) ak))) [ar (.ro (ns.map D.int)),ar (.int k),none] S=ar (.ok (.nx [ar (.ro (ns.map D.int)),ar (.int k),ar (.int c)]),S):=bN (x:=.int c) (by rw[call2 (x:=.ro (ns.map D.int)) (y:=.int k) rfl rfl];exact U)
 have X:∀ ρ,aW vP (mK (.int 10)) (mK (.int 18)) ρ=aC (.int 1000000000000000000):=fun ρ=>(b9 (x:=.int 10) (y:=.int 18) rfl rfl).trans (if_pos (e:=M.fail) (show BH 10 18 from⟨by decide,by decide,by decide⟩))
 have Z:c9 Lu (mV 2) (aW vP (mK (.int 10)) (mK (.int 18))) [ar (.ro (ns.map D.int)),ar (.int k),ar (.int c)]=aC (decide (1000000000000000000<=c)):=bM (x:=.int c) rfl (X _) rfl;by_cases h:1000000000000000000<=c
 ·exact⟨_,_,fW (o:=.ret (.lst S.length)) ((aS W).trans (nF ((MT ((bb Z).trans (if_pos (MF h))) S).trans (gr (og (ys:=[.int (c - 1000000000000000000),.bl b_]) (cA (S1:=S) (MT ((b9 (x:=.int c) rfl (X _)).trans rfl) S) (cA rfl rfl)) pq))))) rfl,Y _ ⟨_,b_,cM,by omega,fun z=>by cases z⟩⟩
 ·exact⟨_,_,fW (o:=.ret (.lst S.length)) ((aS W).trans ((aS (MT ((bb Z).trans (if_neg (by rw[Nh];exact h))) S)).trans (gr (og (ys:=[.int (c % 2147483647),.bl dV]) (cA (jq rfl rfl (by decide)) (cA rfl rfl)) pq)))) rfl,Y _ ⟨_,dV,cM,Oy _ (by decide),fun _=>N6 _ (by decide)⟩⟩
def u6(n a:Nat):List (List Int):=(pe (a+1) (n - (a+1))).map fun b:Nat=>[(a:Int),(b:Int)]
def eO(n:Nat):List (List Int):=(eb n).flatMap (u6 n)
theorem pairs_len(Z:n<=14):(eO n).length<=91:=by
 have:∀m,m<15->(eO m).length<=91:=by decide+kernel
 exact this n (by omega)
theorem Fl(Z:n<=14):(u6 n a).length<=14:=by unfold u6;simp;omega
structure Kp(k:Nat)(S S':aF):Prop where
 len:S.length<=S'.length
 oth:∀i,i<S.length->i≠k->S'[i]? =S[i]?
 st:d9 S' k
theorem Kp.trans(a:Kp k S S1)(b:Kp k S1 S2):Kp k S S2:=⟨ME a.len b.len,fun i hi Z=>(b.oth i (MG hi a.len) Z).trans (a.oth i hi Z),b.st⟩
theorem Kp.refl(h:d9 S k):Kp k S S:=⟨Ms _,fun _ _ _=>rfl,h⟩
theorem d9.grow(h:d9 S k):d9 (S++G) k:=by
 obtain⟨st,b,e,r⟩:=id h;exact⟨st,b,by rw[MN h.lt];exact e,r⟩
theorem Kp.grow(h:d9 S k)(G:aF):Kp k S (S++G):=⟨by simp,fun i hi _=>MN hi,h.grow⟩
theorem zH{Q:D->aF->Prop}(hs:d9 S k)(Y:0<many)(U:many<1073741824)(X:∀j Z,0<=j->j<many->Z.length=S.length->Kp k S Z->Q (.int j) Z):runs (aJ [.lst k,.int many]) S Q:=
 Im hs Y U fun j Z a b c d e=>X j Z a b c ⟨OV c.symm,fun i _ W=>d i W,e⟩
theorem jK:∀ns:List Int,mapP (gS S n) (ns.map D.int)=ar (ns.map oD)
 |[]=>rfl
 |x::r=>by
  show(match gS S n (D.int x),mapP (gS S n) (r.map D.int)with|some p,ar ps=>ar (p::ps)|_,_=>none)=_
  rw[iA,jK r];rfl
theorem Dt{ns:List Int}(h:S[k]? =ar (ns.map D.int)):gS S (n+1) (.lst k)=ar (.list (ns.map oD)):=by
 show((S[k]?).bind fun xs=>(mapP (gS S n) xs).map sb)=_;rw[h];show(mapP (gS S n) (ns.map D.int)).map sb=_;rw[jK];rfl
theorem tI{Z Y:Type}(f:Z->Y):∀(l:List Z) (i:Nat),(l.map f).eraseIdx i=(l.eraseIdx i).map f
 |[],_=>rfl
 |_::_,0=>rfl
 |a::l,i+1=>by simp[tI f l i]
def j9(r:List Int):PyData:=.tuple (r.map oD)
theorem iB(r:List Int):gS S (n+1) (tupI r)=ar (j9 r):=by
 show(mapP (gS S n) (r.map D.int)).map Rp=_;rw[jK];rfl
theorem lC:∀rs:List (List Int),mapP (gS S (n+1)) (rs.map tupI)=ar (rs.map j9)
 |[]=>rfl
 |x::r=>by
  show(match gS S (n+1) (tupI x),mapP (gS S (n+1)) (r.map tupI)with|some p,ar ps=>ar (p::ps)|_,_=>none)=_
  rw[iB,lC r];rfl
theorem Du{rs:List (List Int)}(h:S[k]? =ar (rs.map tupI)):gS S (n+2) (.lst k)=ar (.list (rs.map j9)):=by
 show((S[k]?).bind fun xs=>(mapP (gS S (n+1)) xs).map sb)=_;rw[h];show(mapP (gS S (n+1)) (rs.map tupI)).map sb=_;rw[lC];rfl
theorem Fm{rs:List (List Int)}{Q:D->aF->Prop}(h:S[k]? =ar (rs.map tupI))(Z:∀b,Q (.bl b) S):runs (inD (tupI r) (.lst k)) S Q:=by
 unfold inD;rw[nk (iB r) (Du h) rfl];exact Z _
theorem J6{Q:D->aF->Prop}(Z:∀b,Q (.bl b) S):runs (fV (.bl a) (.bl b)) S Q:=by
 unfold fV;rw[dY kR kR];exact Z _
theorem fe(ns:List Int):intsOf (ns.map D.int)=ar ns:=by
 induction ns with
 |nil=>rfl
 |cons x r ih=>simp[intsOf,ih]
theorem rq(rs:List (List Int)):rowsOf (rs.map tupI)=ar rs:=by
 induction rs with
 |nil=>rfl
 |cons x r ih=>
  show(match intsOf (x.map D.int),rowsOf (r.map tupI)with|some ns,ar nss=>ar (ns::nss)|_,_=>none)=_
  rw[fe,ih]
structure WebOk(many:Int)(ts:List (List Int)):Prop where
 el:∀t∈ts,∃a b:Int,t=[a,b]/\0<=a/\a<b/\b<many
 ris:ts.Pairwise fun a b=>HT.lexLt a b=b_
 few:ts.length<=21
theorem Dv:∀t∈eO n,∃a b:Int,t=[a,b]/\0<=a/\a<b/\b<n:=by
 intro t X;unfold eO at X;obtain⟨a,W,Y⟩:=QC.mp X;unfold u6 at Y;obtain⟨b,Z,rfl⟩:=MJ.mp Y;rw[Qf]at Z;rw[MC]at W;exact⟨a,b,rfl,by omega,by omega,by omega⟩
theorem tJ(Z:n<=7):(eO n).Pairwise (fun a b=>HT.lexLt a b=b_)/\(eO n).length<=21:=by
 have:∀m,m<8->(eO m).Pairwise (fun a b=>HT.lexLt a b=b_)/\(eO m).length<=21:=by decide+kernel
 exact this n (by omega)
theorem WebOk.of_sub(Y:n<=7){Z:List (List Int)}(h:Z.Sublist (eO n)):WebOk n Z:=
 ⟨fun t X=>Dv t (h.subset X),OA h (tJ Y).1,ME h.length_le (tJ Y).2⟩
theorem Be{Z:List (List Int)}(h:Z.Pairwise fun a b=>HT.lexLt a b=b_):dz Z=Z:=
 n0 (cm Z) (dX Z) (h.imp fun z=>v9 z)
theorem Bg:uT (tupI a) (tupI b)=HT.lexLt a b:=by
 simp only[uT,tupI,fe]
theorem wR:∀{ts:List (List Int)},ts.Pairwise (fun a b=>HT.lexLt a b=b_)->uU (ts.map tupI)=b_
 |[],_=>rfl
 |[_],_=>rfl
 |a::b::r,h=>by
  obtain⟨Z,Y⟩:=Nn.mp h;show(uT (tupI a) (tupI b) && uU ((b::r).map tupI))=b_;rw[Bg,Z b (by simp),wR Y];rfl
theorem Fo(X:0<=many)(Z:many<=14)(w:WebOk many ts):i9 (.tup [.int many,.tup (ts.map tupI)])=true:=by
 have:(ts.map tupI).all (kl many)=true:=by
  rw[Ox,MM];intro t T;obtain⟨a,b,rfl,W,U,Y⟩:=w.el t T;simp[tupI,kl,cQ,W,U,Y];omega
 simp only[i9,X,Z,this,wR w.ris,decide_true,Ra]
theorem Bh:t∈iM l↔t∈l:=by
 unfold iM;rw[(cm _).mem_iff,jE]
theorem tK:∀l:List (List Int),(gD l).length<=l.length
 |[]=>Ms _
 |x::r=>by
  unfold gD;have:=tK r;split
  ·simp;omega
  ·simp;omega
theorem oh(l:List (List Int)):(iM l).length<=l.length:=by
 unfold iM;rw[(cm _).length_eq];exact tK l
theorem Bi(l:List (List Int)):(iM l).Pairwise fun a b=>HT.lexLt a b=true:=by
 have X:=dX (gD l);have Z:(iM l).Nodup:=(Oh (cm _)).mpr (nh l);unfold iM at Z⊢;generalize dz (gD l)=s at X Z
 induction s with
 |nil=>exact .nil
 |cons x r ih=>
  obtain⟨a1,a2⟩:=Nn.mp X;obtain⟨U,W⟩:=Nj.mp Z;refine Nn.mpr ⟨fun y Y=>?_,ih a2 W⟩;cases q:HT.lexLt x y with
  |true=>rfl
  |false=>exact absurd (pK q (a1 y Y) ▸ Y) U
def J7:Nat->D->Bool
 |_,.ro _=>dV
 |_,.fn _ _ _ _ _=>dV
 |_,.exc _ _=>dV
 |n+1,.tup ds=>ds.all (J7 n)
 |_,_=>b_
theorem zI(h:J7 n d=b_):Dp d:=by
 cases d<;>first|rfl|(cases n<;>cases h)
theorem J8(h:J7 (n+1) d=b_):LF d:=⟨zI h,fun ds e x Z=>by
 subst e;exact zI (MM.mp h x Z)⟩
def J9:D->Bool
 | .tup ds=>ds.all fun x=>match x with
  | .tup ts=>decide (ts.length<=18)
  |_=>b_
 |_=>b_
structure Good(d:D):Prop where
 nr:KG d
 few:∀m ts,d= .tup [m,.tup ts]->ts.length<=18
theorem Fp(h:J7 3 d=b_)(U:J9 d=b_):Good d:=⟨⟨zI h,fun ds e x X=>by
  subst e;have Z:=MM.mp h x X;refine⟨zI Z,fun Y W t T=>?_⟩;subst W;exact J8 (MM.mp Z t T)⟩,fun m Y e=>by
  subst e;have:=MM.mp U (.tup Y) (by simp)
  simpa using this⟩
def Dw(d:D):Bool:=J7 3 d && J9 d
theorem nG(h:Dw d=b_):Good d:=by
 unfold Dw at h;rw[M5]at h;exact Fp h.1 h.2
theorem Gh{xs:List D}{j:Int}(Y:0<=j)(X:j<xs.length):∃d,k9 xs j=ar d/\d∈xs:=by
 have Z:j.toNat<xs.length:=by omega
 refine⟨xs[j.toNat],?_,Ny Z⟩;unfold k9 As;simp[Y,X,Z]
section
variable {d:D}
theorem Dx(h:KG d)(Y:∀m ts,d= .tup [m,.tup ts]->ts.length<=1000):b0 [d]=if i9 d=b_ then aC .non else M.raise (.exc "NoWeb" []):=by
 have Z:dM (bV (aM (aw jH (ae (mV 0) ak)))) [ar d]=aC (!i9 d):=by
  show(bV _ _>>=_)=_;rw[ig (b:=i9 d) (iZ ((e9 rfl).trans (Il h Y)))];rfl
 cases hw:i9 d with
 |true=>exact(iW ((bb Z).trans (by rw[hw];exact if_neg (by decide))) rfl).trans (if_pos rfl).symm
 |false=>exact(fZ ((bb Z).trans (by rw[hw];exact if_pos rfl))).trans (if_neg (by decide)).symm
end
theorem eE(l:List (List Int)):b8 0 (l.map tupI)=true:=by
 have h:∀r:List Int,b8 0 (r.map D.int)=true:=fun r=>by
  induction r with
  |nil=>rfl
  |cons x r ih=>rw[MU];unfold b8;rw[ih];unfold eU;rfl
 induction l with
 |nil=>rfl
 |cons x l ih=>rw[MU];unfold b8;rw[ih];unfold tupI eU;rw[h];rfl
abbrev ah(n:Nat)(E:List (List Int)):D:=.tup [.int n,.tup (E.map tupI)]
theorem Ip:KG (ah n E):=by
 refine⟨rfl,?_⟩;intro ds e x Z;cases e;simp only[f',fb,or_false]at Z;rcases Z with rfl|rfl
 ·exact⟨rfl,fun Y e=>by cases e⟩
 ·refine⟨rfl,fun Y e t X=>?_⟩;cases e;obtain⟨r,_,rfl⟩:=MJ.mp X;refine⟨rfl,fun ds e x Z=>?_⟩;cases e;obtain⟨i,_,rfl⟩:=MJ.mp Z;exact rfl
theorem Fq{n:Nat}{E:List (List Int)}(w:WebOk n E):∀m Z,ah n E= .tup [m,.tup Z]->Z.length<=1000:=by
 intro m Z e;cases e;have:=w.few;rw[Mq];omega
theorem same_int:cO (k+1) [.int i,.int i]=aC (.bl b_):=by
 refine cZ (o:=.ret (.bl b_)) ?_ rfl;show dj _ [ar (.int i),ar (.int i)]=_;unfold dj;rw[aV (ρ':=[ar (.int i),ar (.int i)]) ((bb (b:=dV) (ig rfl)).trans (if_neg (by decide)))]
 refine eN ?_;show(aW il (mV 0) (mV 1) _>>=_)=_;rw[b9 (x:=.int i) (y:=.int i) rfl rfl,Mj,au];rw[show lG (D.bl b_)=aC b_ from rfl,au,if_pos rfl,b9 (x:=.bl dV) (y:=.bl dV) rfl rfl,LD]
theorem Dy{xs:List D}(R:xs.length<=1000)(h:∀x∈xs,cO k [x,x]=aC (.bl b_)):cO (k+1) [.tup xs,.tup xs]=aC (.bl b_):=by
 have em:((((xs.zip xs).map fun p:D×D=>D.tup [p.1,p.2]).filter fun _=>b_).map fun _=>D.bl b_)=(xs.map fun _=>b_).map D.bl:=by
  rw[gq,MZ,MZ];refine QD (by simp) fun i Q P=>by simp
 have X:=fL (mi:=wy (mV 0) (mV 1)) (g:=gR 2 (bS (gN 0) (bS (gN 1) ie))) (t:=iR (cO k)) (m:=iS (cO k)) (js:=[none,none]) (ρ:=[ar (.tup xs),ar (.tup xs)])
  (its:=(xs.zip xs).map fun p:D×D=>D.tup [p.1,p.2]) (fun ρ=>∃x y,ρ=[x,y]) (fun _=>b_) (fun _=>.bl b_) rfl (by rw[Mq,List.length_zip];unfold lim;omega) ⟨none,none,rfl⟩
  (fun d hd ρ ⟨x,y,hρ⟩=>by
   subst hρ;obtain⟨z,U,rfl⟩:=wO hd;exact⟨_,rfl,⟨_,_,rfl⟩,rfl,fun _=>iZ ((call2 rfl rfl).trans (h z U))⟩) (by rw[em];exact n6 _)
 rw[em]at X;have Z:(xs.map fun _=>b_).all id=true:=by rw[Ox];exact MM.mpr fun _ _=>rfl
 have hlen:∀j,j<2->cN dW (mV j) [ar (.tup xs),ar (.tup xs)]=aC (.int xs.length):=fun j S=>by
  match j,S with
  |0,_=>rfl
  |1,_=>rfl
 refine cZ (o:=.ret (.bl b_)) ?_ rfl;show dj _ [ar (.tup xs),ar (.tup xs)]=_;unfold dj;refine cz ?_;refine(bb (b:=b_) (ig rfl)).trans ?_;rw[if_pos rfl];have hi:∀T,aW fV (fH (mV 0) T) (fH (mV 1) T) [ar (.tup xs),ar (.tup xs)]=aC (.bl dV):=fun T=>(b9 (x:=.bl (jo "tuple" T)) (y:=.bl (jo "tuple" T)) rfl rfl).trans LX;have Y:∀T,c9 fV (fH (mV 0) T) (fH (mV 1) T) [ar (.tup xs),ar (.tup xs)]=aC false:=fun T=>bM (x:=.bl (jo "tuple" T)) (y:=.bl (jo "tuple" T)) rfl rfl LX;have W:tj (c9 fV (fH (mV 0) "tuple") (fH (mV 1) "tuple")) (c9 fV (fH (mV 0) "list") (fH (mV 1) "list")) [ar (.tup xs),ar (.tup xs)]=aC false:=by
  show(c9 fV _ _ _>>=_)=_;rw[Y "tuple",au];exact Y "list"
 rw[aV ((bb W).trans (if_neg (by decide))),aV ((bb (bM (hlen 0 (by decide)) (hlen 1 (by decide)) Ml)).trans (if_neg (by decide)))]
 refine eN ((eB X).trans (oa.trans ?_));rw[Z]
def rz(c:M D)(k:D->M D):M D:=fun S=>match c S with
 |some (.ok _,S')=>k .non S'
 |some (.ex (.exc n ds),S')=>if n∈bg then k (.exc n ds) S' else none
 |_=>none
theorem Dz{g:Str->Bool}(Z:n∈bg):wm g (.exc n ds)=aC (.bl (g n)):=if_pos Z
def zJ(bs:List Bool):D->Bool
 | .int k=>bs.getD k.toNat dV
 |_=>dV
section
variable {S S':aF}{k:Nat}
theorem lD(Z:Kp k S S'):oG S S':=fun i xs hi e=>by
 by_cases h:i=k
 ·subst h;obtain⟨st,b,e2,_⟩:=Z.st;rw[e2]at e;cases e;exact .inr rfl
 ·exact .inl (by rw[<-Z.oth i hi h];exact e)
theorem u7(hs:d9 S k)(Z:Kp k S S'):Kp k S (S'.take S.length)/\(S'.take S.length).length=S.length:=by
 have Y:(S'.take S.length).length=S.length:=by rw[NI];have:=Z.len;omega
 have X:∀i,i<S.length->(S'.take S.length)[i]? =S'[i]? :=fun i hi=>by rw[Ou,if_pos hi]
 refine⟨⟨OV Y.symm,fun i hi W=>(X i hi).trans (Z.oth i hi W),?_⟩,Y⟩;obtain⟨st,b,e,r⟩:=Z.st;exact⟨st,b,(X k hs.lt).trans e,r⟩
theorem wU{c:M D}(hs:d9 S k)(h:c S=ar (.ok d,S'))(Z:Kp k S S')(Y:eU 0 d=b_):∃S1,iG c S=ar (.ok d,S1)/\Kp k S S1/\S1.length=S.length:=
 ⟨_,jV h (lD Z) (.inr rfl) Z.len (qP d (wI (ML _) d Y)),u7 hs Z⟩
theorem rA:eU 0 (ah n E)=true:=by
 unfold ah eU b8 eU b8 eU;rw[eE];rfl
theorem zK(hs:d9 S k)(X:0<many)(Y:many<1073741824):∃j S1,iG (aJ [.lst k,.int many]) S=ar (.ok (.int j),S1)/\0<=j/\j<many/\Kp k S S1/\S1.length=S.length:=by
 obtain⟨d,S',e,j,rfl,a,b,Z⟩:=zH (Q:=fun d S'=>∃j,d= .int j/\0<=j/\j<many/\Kp k S S') hs X Y fun j S' a b _ Z=>⟨j,rfl,a,b,Z⟩;obtain⟨S1,e1,k1⟩:=wU hs e Z rfl;exact⟨j,S1,e1,a,b,k1⟩
end
theorem mz(h:n<=k)(Z:S[k]? =ar us)(Y:b8 0 us=b_):jr n (xn S n (f+1)) (.lst k)=ar (.fz us):=by
 unfold jr;rw[if_neg (by omega)]
 show((S[k]?).bind fun xs=>gU n (xn S n f) xs).map D.fz=_;rw[Z,On,jf us (jU (ML _) us Y)];rfl
theorem sj{S G:aF}(i:Nat):(S++G)[S.length+i]? =G[i]? :=by rw[N0 (Ol _ _),Nat.add_sub_cancel_left]
theorem Gi(h:∀S,gS S 60 (.fz us)=ar p)(Z:gg p p=b_):fV (.fz us) (.fz us)=aC (.bl dV):=bp fun S=>by
 unfold fV;exact(dY (h S) (h S)).mpr ⟨by rw[Z];rfl,rfl⟩
theorem Ka:fV (.fz [.int i]) (.fz [.int i])=aC (.bl dV):=Gi (p:=.list [.int i]) (fun S=>rfl) (by simp[gg,ly])
theorem LH:fV (.fz [.int i,.int j,.int k]) (.fz [.int i,.int j,.int k])=aC (.bl dV):=Gi (p:=.list [.int i,.int j,.int k]) (fun S=>rfl) (by simp[gg,ly])
theorem DA:aM (bh (ae (mK (.int i)) ak)) ρ=aC (.fz [.int i]):=bF (us:=[.int i]) rfl (by show 1<=lim;unfold lim;omega)
theorem WebOk.sub{T:List (List Int)}(w:WebOk n E)(h:T.Sublist E):WebOk n T:=⟨fun t Z=>w.el t (h.subset Z),w.ris.sublist h,ME h.length_le w.few⟩
section
variable {ρ:aP}{js:List Nat}{ds:List D}{m:TM}{c:M D}{R:M D->List D->M D}{x:D}
theorem u9(Z:yj js ρ=ar ds)(Y:m (ds.map ar)=c)(X:iG (R c [])=aC x):aM (sh js ak m R) ρ=aC x:=by
 have:sh js ak m R ρ=R c []:=by
  unfold sh;rw[Z];show(ak ρ>>=fun es=>R (m (ds.map ar)) es)=_;rw[Y];rfl
 unfold aM;rw[this,X]
end
section
variable {me e:TM}{g:nO}{ρ ρ':aP}{S S1 S2:aF}{d:D}{F:List D->M D}{x y:D}
end
section
variable {S S1 S2:aF}{k p q:Nat}{e1 e2:TM}{ρ:aP}{x y:D}{f:D->List D->M D}{xs:List D}
theorem tL(Y:e1 ρ=aC x)(Z:Ht x=aC ())(X:e2 ρ S=ar (.ok y,S1)):vC f e1 e2 ρ S=f x [y] S1:=by
 unfold vC;rw[Y,au,Z,au,aO (a:=[y]) (S1:=S1)];rw[aO X];rfl
theorem yq(Z:S[p]? =ar xs)(Y:xs.length<=1000):c8 (.lst p) [d] S=ar (.ok .non,S.set p (xs++[d])):=by
 show(getL p>>=fun xs=>lZ p (xs++[d])) S=_;rw[aO (eQ Z)];exact lB (by rw[Mu];show xs.length+1<=lim;unfold lim;omega) (Mv.mp Z).1
theorem pop_at{j:Int}{d:D}(Z:S[p]? =ar xs)(U:xs.length<=1000)(Y:0<=j)(W:j<xs.length)(X:xs[j.toNat]? =ar d):nX (.lst p) [.int j] S=ar (.ok d,S.set p (xs.eraseIdx j.toNat)):=by
 show(getL p>>=fun xs=>if 0<=j/\j<xs.length then (match xs[j.toNat]? with|some y=>(do let _<-lZ p (xs.eraseIdx j.toNat);aC y)|none=>M.fail)else M.fail) S=_
 rw[aO (eQ Z),if_pos ⟨Y,W⟩,X];show(lZ p (xs.eraseIdx j.toNat)>>=fun _=>aC d) S=_;rw[aO (lB (by have:=List.length_eraseIdx_le xs j.toNat;unfold lim;omega) (Mv.mp Z).1)];rfl
theorem Iq{ns:List Int}(Y:S[p]? =ar (ns.map D.int)):fV (.lst p) (.fz []) S=ar (.ok (.bl (!ns.isEmpty)),S):=by
 have X:gS S 60 (.fz [])=ar (.list []):=rfl;obtain⟨d,Z,e,h⟩:=(dY (f:=fun p q=> !gg p q) (Q:=fun d Z=>d= .bl (!ns.isEmpty)/\Z=S) (Dt (n:=59) Y) X).mpr ⟨by
  have:gg (.list (ns.map oD)) (.list [])=ns.isEmpty:=by cases ns<;>simp[gg,ly]
  rw[this],rfl⟩
 obtain⟨rfl,rfl⟩:=h;exact e
end
theorem Kp.set(Y:Kp k S S')(W:S.length<=p)(X:k<S.length):Kp k S (S'.set p xs):=by
 refine⟨by rw[OZ];exact Y.len,fun i hi Z=>?_,?_⟩
 ·rw[Nv (by omega)];exact Y.oth i hi Z
 ·obtain⟨st,b,e,r⟩:=Y.st;exact⟨st,b,by rw[Nv (by omega)];exact e,r⟩
theorem yr{l:List Int}(h:j<l.length):(l[j]::l.eraseIdx j).Perm l:=by
 induction l generalizing j with
 |nil=>cases h
 |cons x l ih=>
  cases j with
  |zero=>exact .refl _
  |succ j=>exact(List.Perm.swap _ _ _).trans ((ih (by simpa using h)).cons _)
theorem Kb{j:Int}(h: -(2 ^ 62)<=j/\j<=lim):bY [.int j]=bD (bu 0 j.toNat):=by unfold bY;exact if_pos h
theorem fT(r:List Int):b8 0 (r.map D.int)=true:=by
 induction r with
 |nil=>rfl
 |cons x r ih=>rw[MU];unfold b8;rw[ih];unfold eU;rfl
theorem vd(r:List Int):eU 0 (tupI r)=true:=by unfold tupI eU;exact fT r
def fG(n:Nat):List Int:=(eb n).map fun i:Nat=>(0:Int)+(i:Int)
inductive Dr(P:D->D->Prop):List D->List D->Prop
 |nil:Dr P [] []
 |skip {d:D} {ds ys:List D}:Dr P ds ys->Dr P (d::ds) ys
 |put {d y:D} {ds ys:List D}:P d y->Dr P ds ys->Dr P (d::ds) (y::ys)
theorem Dr.len:∀{ds ys:List D},Dr P ds ys->ys.length<=ds.length
 |_,_,.nil=>Ms _
 |_,_,.skip h=>Nat.le_succ_of_le h.len
 |_,_,.put _ h=>OP h.len
theorem Dr.cl{P:D->D->Prop}(Z:∀d y,P d y->eU 0 y=b_):∀{ds ys:List D},Dr P ds ys->b8 0 ys=b_
 |_,_,.nil=>rfl
 |_,_,.skip h=>h.cl Z
 |_,_,.put p h=>by unfold b8;rw[Z _ _ p,h.cl Z];rfl
theorem mB{g:nO}{t:aP->M Bool}{m:TM}(R:aP->Prop)(P:D->D->Prop):∀(items:List D) (ρ:aP) (S:aF),R ρ->d9 S k->
  (∀d∈items,∀ ρ S,R ρ->d9 S k->∃Z b S1,g d ρ=aC Z/\R Z/\t Z S=ar (.ok b,S1)/\Kp k S S1/\S1.length=S.length/\(b=b_->∃y S2,m Z S1=ar (.ok y,S2)/\P d y/\Kp k S1 S2/\S2.length=S1.length))->
  ∃ys S2,cR ⟨its,.none⟩ g t m items ρ S=ar (.ok ys,S2)/\Dr P items ys/\Kp k S S2/\S2.length=S.length
 |[],ρ,S,_,hs,_=>⟨[],S,by unfold cR;rw[cX];rfl,.nil,.refl hs,rfl⟩
 | d::ds,ρ,S,hR,hs,hb=>by
  obtain⟨Z,b,S1,e1,Y,e2,k1,O,L⟩:=hb d (MH ..) ρ S hR hs;cases b with
  |false=>
   obtain⟨ys,S2,Q,T,k2,W⟩:=mB (its:=its) R P ds Z S1 Y k1.st fun x X=>hb x (My _ X);refine⟨ys,S2,?_,.skip T,k1.trans k2,W.trans O⟩;unfold cR;rw[cX,au,e1,au,aO e2,if_neg (by decide)]
   exact Q
  |true=>
   obtain⟨y,S2,N,K,k2,W⟩:=L rfl;obtain⟨ys,U,Q,T,k3,J⟩:=mB (its:=its) R P ds Z S2 Y k2.st fun x X=>hb x (My _ X);refine⟨y::ys,U,?_,.put K T,(k1.trans k2).trans k3,J.trans (W.trans O)⟩;unfold cR;rw[cX,au,e1,au,aO e2,if_pos rfl,aO N,aO Q];rfl
theorem Bj{mi:aP->M Iter}{g:nO}{t:jF}{m:TM}(R:aP->Prop)(P:D->D->Prop)(hi:mi ρ=aC ⟨its,.none⟩)(Q:its.length<=1000)(T:R (mj js ρ))(hs:d9 S k)(X:∀d y,P d y->eU 0 y=b_)
  (W:∀d∈its,∀ ρ S,R ρ->d9 S k->∃ ρ1 b S1,g d ρ=aC ρ1/\R ρ1/\t ρ1 S=ar (.ok b,S1)/\Kp k S S1/\S1.length=S.length/\(b=b_->∃y S2,m ρ1 S1=ar (.ok y,S2)/\P d y/\Kp k S1 S2/\S2.length=S1.length)):
  ∃ys S2,aM (bC mi g t m js) ρ S=ar (.ok (.fz ys),S2)/\Dr P its ys/\Kp k S S2/\S2.length=S.length:=by
 obtain⟨ys,S2,e,Y,k2,Z⟩:=mB (its:=its) (g:=g) (t:=t) (m:=m) (k:=k) R P its (mj js ρ) S T hs W;have hlen:=Y.len;refine⟨ys,S2,?_,Y,k2,Z⟩;have U:bC mi g t m js ρ S=ar (.ok (.lst S2.length),S2++[ys]):=by
  unfold bC;rw[hi,au];unfold ik;rw[if_pos (show its.length<=lim by unfold lim;omega),aO e]
  exact dv (by unfold lim;omega)
 have:=jV (u:=.fz ys) U (lD (k2.trans (Kp.grow k2.st [ys]))) (.inl (by rw[Mu,Z];exact Oj _)) (by rw[Mu,Z];exact Og _) (mz (f:=59) (by omega) cM (Y.cl X))
 unfold aM;rw[this, <-Z,QI]
theorem DB{f:D->D->M D}{e1 e2:TM}(Y:e1 ρ S=ar (.ok x,S1))(Z:e2 ρ S1=ar (.ok y,S2))(h:f x y=aC (.bl b)):c9 f e1 e2 ρ S=ar (.ok b,S2):=by
 have:(e1 ρ>>=fun x=>e2 ρ>>=fun y=>f x y) S=ar (.ok (.bl b),S2):=by rw[aO Y,aO Z,h];rfl
 exact aO this
theorem Ir{ys:List D}(Z:S[p]? =ar xs)(Y:xs.length+ys.length<=1000):m4 (.lst p) [.fz ys] S=ar (.ok .non,S.set p (xs++ys)):=by
 show(getL p>>=fun xs=>lZ p (xs++ys)) S=_;rw[aO (eQ Z)];exact lB (by rw[Mu];unfold lim;omega) (Mv.mp Z).1
theorem Iu{l:List (List Int)}(h:l.Nodup):(dz l).Pairwise fun a b=>HT.lexLt a b=true:=by
 have Y:=dX l;have X:(dz l).Nodup:=(Oh (cm _)).mpr h;generalize dz l=s at Y X
 induction s with
 |nil=>exact .nil
 |cons x r ih=>
  obtain⟨a1,a2⟩:=Nn.mp Y;obtain⟨U,W⟩:=Nj.mp X;refine Nn.mpr ⟨fun y Z=>?_,ih a2 W⟩;cases q:HT.lexLt x y with
  |true=>rfl
  |false=>exact absurd (pK q (a1 y Z) ▸ Z) U
theorem tN(X:∀r∈nss,r.length=2)(Z:nss.length<64):qG (nss.map tupI)=bD ((dz nss).map tupI):=by
 cases nss with
 |nil=>rfl
 |cons r nss=>
  have W:two (r::nss)=true:=MM.mpr fun x Y=>by rw[X x Y];rfl
  show(match rowsOf ((r::nss).map tupI)with|some nss=>wa nss|none=>M.fail)=_
  rw[rq];exact if_pos ⟨Z,W⟩
theorem vf{c:M D}{S2:aF}(h:c S=ar (.ok (.lst S2.length),S2++[us]))(Z:Kp k S S2)(l:S2.length=S.length)(Y:b8 0 us=b_):iG c S=ar (.ok (.fz us),S2):=by
 have:=jV (u:=.fz us) h (lD (Z.trans (Kp.grow Z.st [us]))) (.inl (by rw[Mu,l];exact Oj _)) (by rw[Mu,l];exact Og _) (mz (f:=59) (by omega) cM Y)
 rw[this, <-l,QI]
theorem Bk{Z:List (List Int)}(hs:d9 S k)(X:S[p]? =ar (Z.map tupI))(W:∀r∈Z,r.length=2)(Y:Z.length<64):iG (bZ [.lst p]) S=ar (.ok (.fz ((dz Z).map tupI)),S):=by
 refine vf ?_ (Kp.refl hs) rfl (eE _);show(getL p>>=fun xs=>qG xs) S=_;rw[aO (eQ X),tN W Y];exact dv (by rw[Mq,(cm Z).length_eq];unfold lim;omega)
theorem pL{zs:List Int}{a:Int}(Y:0<=a)(h:a<zs.length):b7 (tupI zs) (.int a)=aC (.int (zs.getD a.toNat 0)):=by
 show(match k9 (zs.map D.int) a with|some d=>(aC d:M D)|none=>M.fail)=_
 have:k9 (zs.map D.int) a=ar (.int (zs.getD a.toNat 0)):=by
  unfold k9 As;rw[Mq];have X:¬ (a<0):=by omega
  have Z:a.toNat<zs.length:=by omega
  simp[Y,h,Z]
 rw[this]
theorem WebOk.sort{T:List (List Int)}(h:T.Nodup)(Y:∀t∈T,∃a b:Int,t=[a,b]/\0<=a/\a<b/\b<m)(Z:T.length<=21):WebOk m (dz T):=
 ⟨fun t X=>Y t ((cm T).mem_iff.mp X),Iu h,by rw[(cm T).length_eq];exact Z⟩
section
variable {n:Nat}{zs:List Int}{E:List (List Int)}
theorem zM(Z:zs.Perm (fG n))(hi:i<n):0<=zs.getD i 0/\zs.getD i 0<n:=by
 have X:zs.length=n:=by rw[Z.length_eq];unfold fG;simp
 have:zs.getD i 0∈fG n:=by
  rw[<-Z.mem_iff,Mw,Mt (by omega)]
  exact Ny _
 unfold fG at this;obtain⟨j,Y,e⟩:=MJ.mp this;have:=MC.mp Y;omega
theorem Fs(Z:zs.Perm (fG n)):zs.Nodup:=by
 rw[Z.nodup_iff];unfold fG;exact List.Pairwise.map _ (fun a b h e=>h (by have e2:(0:Int)+(a:Int)=0+(b:Int):=e;omega)) (Pm (n:=n))
theorem wV(Z:zs.Perm (fG n))(hi:i<n)(X:j<n)(h:zs.getD i 0=zs.getD j 0):i=j:=by
 have Y:zs.length=n:=by rw[Z.length_eq];unfold fG;simp
 rw[Mw,Mw,Mt (by omega),Mt (by omega)]at h
 exact(Qv (Fs Z)).mp h
end
theorem DC{Z:aP->M (List D)}(h:Z ρ S=ar (.ok [d1,d2],S1)):wb i j Z ρ S=ar (.ok (.nx ((ρ.set i (ar d1)).set j (ar d2))),S1):=by
 unfold wb;rw[aO h];rfl
theorem jl{e1 e2:TM}(hs:d9 S k)(Y:e1 ρ=aC (.lst k))(X:e2 ρ=aC (.int m))(Z:0<m)(W:m<1000):∃j S1,aM (aw aJ (ae e1 (ae e2 ak))) ρ S=ar (.ok (.int j),S1)/\0<=j/\j<m/\Kp k S S1/\S1.length=S.length:=by
 obtain⟨j,S1,e,r⟩:=zK (many:=m) hs Z (by omega)
 refine⟨j,S1,?_,r⟩;unfold aM;rw[call2 Y X];exact e
def rB(n:Nat)(T:List (List Int)):Prop:=∀t∈T,∃a b:Int,t=[a,b]/\0<=a/\a<b/\b<n
theorem rB.snoc{n:Nat}{T:List (List Int)}{a b:Int}(h:rB n T)(Z:0<=a)(Y:a<b)(X:b<n):rB n (T++[[a,b]]):=fun t W=>by
 rcases NQ.mp W with h'|h'
 ·exact h t h'
 ·exact⟨a,b,by simpa using h',Z,Y,X⟩
theorem Iv{e:TM}(h:e ρ S=ar (.ok x,S1)):ki e ρ S=mw [x] S1:=by
 unfold ki;rw[aO (cA h rfl)]
theorem zN{mi:aP->M Iter}(hi:mi ρ S=ar (.ok ⟨its,.none⟩,S1))(h:eL ⟨its,.none⟩ g b its ρ S1=ar (.ok o,S2)):i7 mi g b ρ S=ar (.ok o,S2):=by
 unfold i7;rw[aO hi];exact h
theorem Kc(l:List D)(m:Nat):S3.cutD l none (ar (m:Int))=l.take m:=by
 unfold S3.cutD;rw[HT.sIx_none,HT.sIx_nat,QM,Nat.sub_zero];by_cases h:m<=l.length
 ·rw[Nat.min_eq_left h]
 ·rw[Nat.min_eq_right (by omega),O5 (Ms _),O5 (by omega)]
theorem rB.two(h:rB n T):∀r∈T,r.length=2:=fun r Z=>by obtain⟨a,b,rfl,_⟩:=h r Z;rfl
def iX(p:Int)(t:List Int):Bool:=t.any (· ==p)
theorem vg(p:Int):∀t:List Int,((t.map oD).any fun y=>gg y (.int p))=iX p t
 |[]=>rfl
 |x::r=>by
  rw[MU,QS,vg p r];unfold iX;rw[QS];congr 1
theorem Gj:inD (.int p) (tupI t)=aC (.bl (iX p t)):=bp fun S=>by
 unfold inD;exact(nk (iA) (iB t) (r:=iX p t) (by show ar (id ((t.map oD).any fun y=>gg y (.int p)))=_;rw[vg];rfl)).mpr ⟨rfl,rfl⟩
theorem kf{F:List D->M D}{e1 e2 Z:TM}(W:e1 ρ=aC x)(Y:e2 ρ=aC y)(X:Z ρ=aC z):aw F (ae e1 (ae e2 (ae Z ak))) ρ=F [x,y,z]:=by
 unfold aw;rw[aQ W (aQ Y (aQ X rfl)),au]
theorem nH:∀s t:List Int,ly (s.map oD) (t.map oD)=decide (s=t)
 |[],[]=>by simp[ly]
 |[],_::_=>by simp[ly]
 |_::_,[]=>by simp[ly]
 |x::s,y::t=>by
  rw[MU,MU];unfold ly;rw[nH s t,OD];simp[gg]
theorem DD{Y:Type} [DecidableEq Y]:∀{l m:List Y},l.Nodup->(∀x∈l,x∈m)->l.length<=m.length
 |[],_,_,_=>ML _
 |x::l,m,h,hs=>by
  obtain⟨W,U⟩:=Nj.mp h;have Z:=hs x (.head _);have:=DD (l:=l) (m:=m.erase x) U fun y X=>(List.mem_erase_of_ne (fun(e:y=x)=>W (by rw[<-e];exact X))).mpr (hs y (.tail _ X))
  rw[List.length_erase_of_mem Z]at this;have:=List.length_pos_of_mem Z;rw[MW];omega
theorem zO{a m:Nat}:bu ((a:Int)+1) ((m:Int) - ((a:Int)+1)).toNat=(pe (a+1) (m - (a+1))).map fun b:Nat=>.int (b:Int):=by
 have e:((m:Int) - ((a:Int)+1)).toNat=m - (a+1):=by omega
 rw[e];unfold bu;rw[List.range'_eq_map_range,MZ];refine OT fun i _=>?_;show D.int ((a:Int)+1+(i:Int))= .int ((a+1+i:Nat):Int);congr 1
theorem LJ{n a:Nat}{x:Option D}(Y:n<=14)(Z:a<n):aM (bC (F9 (aW bI (mV 2) (mK (.int 1))) (mV 0)) (gN 0) fP fQ [none,ar 2]) [ar (.int n),x,ar (.int a)]=aC (.fz ((u6 n a).map tupI)):=by
 have em:(((pe (a+1) (n - (a+1))).map fun b:Nat=>D.int (b:Int)).filter fun _=>b_).map (fun d=>D.tup [.int a,d])=(u6 n a).map tupI:=by
  unfold u6;rw[gq,MZ,MZ];rfl
 have h:=fL (mi:=F9 (aW bI (mV 2) (mK (.int 1))) (mV 0)) (g:=gN 0) (t:=fP) (m:=fQ) (js:=[none,ar 2]) (ρ:=[ar (.int n),x,ar (.int a)]) (its:=(pe (a+1) (n - (a+1))).map fun b:Nat=>D.int (b:Int)) (fun ρ=>∃y,ρ=[y,ar (.int a)]) (fun _=>b_) (fun d=>D.tup [.int a,d])
  (by rw[Dm (x:=.int ((a:Int)+1)) (y:=.int n) rfl rfl,J3 (by omega),zO]) (by rw[Mq,P0];unfold lim;omega) ⟨none,rfl⟩
  (fun d hd ρ ⟨y,hρ⟩=>by
   subst hρ;refine⟨_,rfl,⟨_,rfl⟩,rfl,fun _=>?_⟩;show bK [.int a,d]=_;unfold bK;exact if_pos pq) (by rw[em];exact eE _)
 rw[em]at h;exact h
theorem tO{S:aF}{n:Nat}{its:List D}(Y:n<=14):∀(post:List Nat) (acc:List (List Int)) (x:Option D),(∀a∈post,a<n)->acc.length+post.length*14<=300->
  ∃Z,eL ⟨its,.none⟩ (gN 2) g9 (post.map fun i:Nat=>.int (0+(i:Int))) [ar (.int n),ar (.lst S.length),x] (S++[acc.map tupI])=ar (.ok (.nx [ar (.int n),ar (.lst S.length),Z]),S++[(acc++post.flatMap (u6 n)).map tupI])
 |[],acc,x,_,_=>⟨x,by rw[NR,gO,List.flatMap_nil,M3];rfl⟩
 |a::post,acc,x,ha,hl=>by
  rw[MW,Nat.succ_mul]at hl;have U:=Fl (a:=a) Y;obtain⟨Z,X⟩:=tO (S:=S) (its:=its) Y post (acc++u6 n a) (ar (.int a)) (fun b W=>ha b (.tail _ W)) (by rw[Mu];omega)
  refine⟨Z,?_⟩;rw[Qk, <-MY, <-X,MU,Pi];refine j8 rfl (tG (x:=.non) ((tL (x:=.lst S.length) rfl rfl (MT (LJ Y (ha a (.head _))) _)).trans ((Ir cM (by rw[Mq,Mq];omega)).trans ?_)))
  rw[<-NC,OF _ _ (Ms _),P1];rfl
theorem DE{n:Nat}(Y:n<=14):iG (bx [.int n])=aC (.fz ((eO n).map tupI)):=by
 have W:=pairs_len Y;have Z:((eO n).map tupI).length<=lim:=by rw[Mq];unfold lim;omega
 have:bx [.int n]=bD ((eO n).map tupI):=by
  funext S;obtain⟨U,e⟩:=tO (S:=S) (its:=bu 0 n) Y (eb n) [] none (fun a X=>MC.mp X) (by rw[MR];simp;omega)
  have hi:ki (mV 0) [ar (.int n),ar (.lst S.length),none]=aC ⟨bu 0 n,.none⟩:=by
   have:=(uS (m:=mV 0) (ρ:=[ar (.int n),ar (.lst S.length),none]) (x:=.int n) rfl).trans (Dn (by omega))
   rw[M8]at this;exact this
  rw[dv Z];exact fW (o:=.ret (.lst S.length)) ((aS (bN (dv (S:=S) (us:=[]) (ML _)))).trans ((aS (n8 hi e)).trans (gr rfl))) rfl
 rw[this];exact bF (eE _) Z
theorem Iw{c:M D}{S S2:aF}{us:List D}{k q:Nat}(hs:d9 S k)(h:c S=ar (.ok (.lst q),S2))(Z:Kp k S S2)(Y:S.length<=q)(g:S2[q]? =ar us)(X:b8 0 us=b_):∃S1,iG c S=ar (.ok (.fz us),S1)/\Kp k S S1/\S1.length=S.length:=
 ⟨_,jV (u:=.fz us) h (lD Z) (.inl (Nat.lt_of_le_of_lt Y (Mv.mp g).1)) Z.len (mz (f:=59) Y g X),u7 hs Z⟩
theorem wW{S:aF}{k p q:Nat}{a1:Option D}(R:k<S.length)(P:S.length<=p)(N:S.length<=q)(Y:p≠q):∀(f:Nat) (ls ms:List Int) (S':aF),ls.length<f->ls.length+ms.length<=14->S'[p]? =ar (ls.map D.int)->S'[q]? =ar (ms.map D.int)->Kp k S S'->
  ∃(zs:List Int) (S2:aF),kG (c9 fV (mV 2) (aM (bh ak))) cL f [ar (.lst k),a1,ar (.lst p),ar (.lst q)] S'=ar (.ok (.nx [ar (.lst k),a1,ar (.lst p),ar (.lst q)]),S2)/\S2[q]? =ar (zs.map D.int)/\zs.Perm (ms++ls)/\Kp k S S2
 |0,ls,ms,S',h,_,_,_,_=>by omega
 | f +1,ls,ms,S',hf,hl,g1,g2,kp=>by
  have J:c9 fV (mV 2) (aM (bh ak)) [ar (.lst k),a1,ar (.lst p),ar (.lst q)] S'=ar (.ok (!ls.isEmpty),S'):=by
   have K:aM (bh ak) [ar (.lst k),a1,ar (.lst p),ar (.lst q)]=aC (.fz []):=bF (us:=[]) rfl (ML _);show((mV 2 _>>=fun x=>aM (bh ak) _>>=fun y=>fV x y)>>=lG) S'=_;rw[K];show(fV (.lst p) (.fz [])>>=lG) S'=_;rw[aO (Iq g1)];rfl
  rw[kG,aO J];cases ls with
  |nil=>exact⟨ms,S',by rfl,g2,by rw[M3],kp⟩
  | cons l0 ls0=>
   generalize hL:l0::ls0=ls at*;have T:(!ls.isEmpty)=true:=by rw[<-hL];rfl
   have O:0<ls.length:=by rw[<-hL];exact Nat.succ_pos _
   rw[if_pos T];obtain⟨j,S1,G,B,A,X,z⟩:=zK (S:=S') (k:=k) (many:=ls.length) kp.st (by omega) (by omega)
   have H:=(Mv.mp g1).1;have ql:=(Mv.mp g2).1;have C:=(X.oth p H (by omega)).trans g1
   have L:=(X.oth q ql (by omega)).trans g2
   have U:j.toNat<ls.length:=by omega
   have F:cL [ar (.lst k),a1,ar (.lst p),ar (.lst q)] S'=ar (.ok (.nx [ar (.lst k),a1,ar (.lst p),ar (.lst q)]),(S1.set p ((ls.eraseIdx j.toNat).map D.int)).set q ((ms++[ls[j.toNat]]).map D.int)):=by
    unfold cL;have hlen:cN dW (mV 2) [ar (.lst k),a1,ar (.lst p),ar (.lst q)] S'=ar (.ok (.int ls.length),S'):=by
     refine(tH (x:=.lst p) (S1:=S') rfl).trans ?_;show(getL p>>=fun xs=>aC (D.int xs.length)) S'=_;rw[aO (eQ g1),Mq];rfl
    have Q:aM (aw aJ (ae (mV 0) (ae (cN dW (mV 2)) ak))) [ar (.lst k),a1,ar (.lst p),ar (.lst q)] S'=ar (.ok (.int j),S1):=by
     have E:aw aJ (ae (mV 0) (ae (cN dW (mV 2)) ak)) [ar (.lst k),a1,ar (.lst p),ar (.lst q)] S'=aJ [.lst k,.int ls.length] S':=aO (cA (x:=.lst k) rfl (cA hlen rfl));unfold aM;rw[<-G];unfold iG;rw[E]
    have Z:=(tL (f:=nX) (e1:=mV 2) (ρ:=[ar (.lst k),a1,ar (.lst p),ar (.lst q)]) (x:=.lst p) rfl rfl Q).trans (pop_at (d:=.int ls[j.toNat]) C (by rw[Mq];omega) B (by rw[Mq];omega) (by rw[MO,Mt U];rfl))
    rw[tI]at Z;have W:=(tL (f:=c8) (e1:=mV 3) (ρ:=[ar (.lst k),a1,ar (.lst p),ar (.lst q)]) (x:=.lst q) rfl rfl Z).trans (yq (d:=.int ls[j.toNat]) (xs:=ms.map D.int) (by rw[Nv Y];exact L) (by rw[Mq];omega))
    refine tG (x:=.non) (W.trans ?_);rw[NC];rfl
   rw[aO F];have he:=PN U;obtain⟨zs,S2,e2,g3,I,k2⟩:=wW (a1:=a1) R P N Y f (ls.eraseIdx j.toNat) (ms++[ls[j.toNat]]) ((S1.set p ((ls.eraseIdx j.toNat).map D.int)).set q ((ms++[ls[j.toNat]]).map D.int)) (by omega) (by rw[Mu];show _+(ms.length+1)<=14;omega)
    (by rw[Nv (kr Y),M9 (by omega)]) (by rw[M9 (by rw[OZ];omega)]) (((kp.trans X).set P R).set N R)
   refine⟨zs,S2,e2,g3,I.trans ?_,k2⟩;rw[MY];exact(yr U).append_left ms
theorem rC{S:aF}{k n:Nat}{ρ:aP}{e1 e2:TM}(hs:d9 S k)(N:n<=14)(T:e1 ρ=aC (.lst k))(R:e2 ρ=aC (.int n)):∃(zs:List Int) (S1:aF),aM (aw bj (ae e1 (ae (aM (cN bY e2)) ak))) ρ S=ar (.ok (.fz (zs.map D.int)),S1)/\zs.Perm (fG n)/\Kp k S S1/\S1.length=S.length:=by
 have O:bu 0 n=(fG n).map D.int:=by unfold bu fG;rw[MZ];rfl
 have hlen:(fG n).length=n:=by unfold fG;simp
 have Z:((fG n).map D.int).length<=lim:=by rw[Mq,hlen];unfold lim;omega
 have U:aM (cN bY e2) ρ=aC (.fz ((fG n).map D.int)):=by
  unfold aM;rw[eB R,Kb (j:=n) ⟨by omega,by unfold lim;omega⟩,M8,O]
  exact bF (fT _) Z
 obtain⟨zs,S2,e,g3,W,k2⟩:=wW (S:=S) (k:=k) (p:=S.length) (q:=S.length+1) (a1:=ar (.fz ((fG n).map D.int))) hs.lt (Ms _) (Og _) (by omega) 64 (fG n) [] (S++[(fG n).map D.int,[]]) (by omega) (by simp;omega) (sj 0) (sj 1) (Kp.grow hs _)
 have Q:bA 3 (bh ak) [ar (.lst k),ar (.fz ((fG n).map D.int)),ar (.lst S.length),none] (S++[(fG n).map D.int])=ar (.ok (.nx [ar (.lst k),ar (.fz ((fG n).map D.int)),ar (.lst S.length),ar (.lst (S.length+1))]),S++[(fG n).map D.int,[]]):=by
  refine(bN (dv (S:=S++[(fG n).map D.int]) (us:=[]) (ML _))).trans ?_;rw[MY,Mu];rfl
 have P:cN m3 (mV 1) [ar (.lst k),ar (.fz ((fG n).map D.int)),none,none] S=ar (.ok (.lst S.length),S++[(fG n).map D.int]):=(tH (F:=m3) (x:=.fz ((fG n).map D.int)) (S1:=S) rfl).trans (dv Z);have X:fx [ar (.lst k),ar (.fz ((fG n).map D.int)),none,none] S=ar (.ok (.ret (.lst (S.length+1))),S2):=by
  unfold fx;exact(aS (bN P)).trans ((aS Q).trans ((aS e).trans (gr rfl)))
 have hm:bj [.lst k,.fz ((fG n).map D.int)] S=ar (.ok (.lst (S.length+1)),S2):=fW X rfl;obtain⟨S1,Y,k1⟩:=Iw hs hm k2 (Og _) g3 (fT _);refine⟨zs,S1,?_,by rw[List.nil_append]at W;exact W,k1⟩
 unfold aM;rw[call2 T U];exact Y
theorem Dr.sub:∀{L:List (List Int)} {ys:List D},Dr (fun d y=>y=d) (L.map tupI) ys->∃rs:List (List Int),ys=rs.map tupI/\rs.Sublist L
 |[],_,.nil=>⟨[],rfl,.slnil⟩
 |t::L,_,.skip h=>by
  obtain⟨rs,e,Z⟩:=Dr.sub h;exact⟨rs,e,Z.cons _⟩
 |t::L,_,.put p h=>by
  obtain⟨rs,e,Z⟩:=Dr.sub h;subst p e;exact⟨t::rs,rfl,Z.cons₂ _⟩
theorem oj{mi:aP->M Iter}{t:jF}{m:TM}{js:List (Option Nat)}{ρ:aP}{L:List (List Int)}{S:aF}{k:Nat}(r:List (Option D))(hi:mi ρ=aC ⟨L.map tupI,.none⟩)(O:L.length<=1000)(Q:mj js ρ=none::r)(hs:d9 S k)(T:∀d,m (ar d::r)=aC d)
  (R:∀(u:List Int) Z,Kp k S Z->Z.length=S.length->∃b S1,t (ar (tupI u)::r) Z=ar (.ok b,S1)/\Kp k Z S1/\S1.length=Z.length):
  ∃(rs:List (List Int)) (S2:aF),bC mi (gN 0) t m js ρ S=ar (.ok (.lst S2.length),S2++[rs.map tupI])/\rs.Sublist L/\Kp k S S2/\S2.length=S.length:=by
 have key:∀(items:List D) (o:Option D) (Z:aF),(∀d∈items,∃u,d=tupI u)->Kp k S Z->Z.length=S.length->∃ys S2,cR ⟨L.map tupI,.none⟩ (gN 0) t m items (o::r) Z=ar (.ok ys,S2)/\Dr (fun d y=>y=d) items ys/\Kp k S S2/\S2.length=S.length:=fun items=>by
  induction items with
  |nil=>exact fun o Z _ X l=>⟨[],Z,by unfold cR;rw[cX];rfl,.nil,X,l⟩
  | cons d ds ih=>
   intro o Z hd X l;obtain⟨u,rfl⟩:=hd d (.head _);obtain⟨b,S1,e1,k1,P⟩:=R u Z X l;obtain⟨ys,S2,e2,W,k2,Y⟩:=ih (ar (tupI u)) S1 (fun d h=>hd d (.tail _ h)) (X.trans k1) (P.trans l);cases b with
   |false=>
    refine⟨ys,S2,?_,.skip W,k2,Y⟩;unfold cR;rw[cX,au,show gN 0 (tupI u) (o::r)=aC (ar (tupI u)::r)from rfl,au,aO e1,if_neg (by decide)]
    exact e2
   |true=>
    refine⟨tupI u::ys,S2,?_,.put rfl W,k2,Y⟩;unfold cR;rw[cX,au,show gN 0 (tupI u) (o::r)=aC (ar (tupI u)::r)from rfl,au,aO e1,if_pos rfl,T,au,aO e2];rfl
 obtain⟨ys,S2,e,W,k2,Y⟩:=key (L.map tupI) none S (fun d hd=>by obtain⟨u,_,rfl⟩:=MJ.mp hd;exact⟨u,rfl⟩) (.refl hs) rfl
 obtain⟨rs,rfl,U⟩:=W.sub;refine⟨rs,S2,?_,U,k2,Y⟩;have:=U.length_le;unfold bC;rw[hi,au];unfold ik;rw[if_pos (show(L.map tupI).length<=lim by rw[Mq];unfold lim;omega),Q,aO e]
 exact dv (by rw[Mq];unfold lim;omega)
theorem tP{ds:List D}{i:Int}(Z:0<=i)(Y:i<ds.length):∃d∈ds,b7 (.fz ds) (.int i)=aC d:=by
 obtain⟨d,e,hd⟩:=Gh Z Y;refine⟨d,hd,?_⟩;show(match k9 ds i with|some d=>(aC d:M D)|none=>M.fail)=_
 rw[e]
theorem om{zs:List Int}{a:Int}(Z:0<=a)(h:a<zs.length):b7 (.fz (zs.map D.int)) (.int a)=aC (.int (zs.getD a.toNat 0)):=pL Z h
theorem DF{e1 e2:TM}{ρ:aP}{x y:Int}(X:e1 ρ=aC (.int x))(W:e2 ρ=aC (.int y)):cN fE (aM (cN bZ (aM (bh (ae e1 (ae e2 ak)))))) ρ=aC (tupI (sortI [x,y])):=by
 have Y:(sortI [x,y]).length=2:=(sortI_perm [x,y]).length_eq;have Z:((sortI [x,y]).map D.int).length<=lim:=by rw[Mq,Y];exact pq
 have a1:aM (bh (ae e1 (ae e2 ak))) ρ=aC (.fz [.int x,.int y]):=by
  show iG (ae _ _ _>>=bD)=_;rw[aQ X (aQ W (es:=ak) rfl),au];exact bF (us:=[.int x,.int y]) rfl pq
 refine(eB (x:=.fz ((sortI [x,y]).map D.int)) ?_).trans (rk Z);show iG (cN bZ _ _)=_;rw[eB a1];exact bF (fT _) Z
theorem Iy{s:List Int}{rs:List (List Int)}:∃b,inD (tupI s) (.fz (rs.map tupI))=aC (.bl b):=by
 refine⟨(rs.map j9).any fun y=>gg y (j9 s),bp fun S=>?_⟩;unfold inD;have Z:gS S 60 (.fz (rs.map tupI))=ar (.list (rs.map j9)):=by
  show(mapP (gS S 59) (rs.map tupI)).map sb=_;rw[lC];rfl
 exact(nk (iB s) Z (r:=(rs.map j9).any fun y=>gg y (j9 s)) rfl).mpr ⟨rfl,rfl⟩
theorem oo{ρ:aP}{e:TM}{n:Nat}(Z:n<=14)(h:e ρ=aC (.int n)):ft (aM (aw bx (ae e ak))) ρ=aC ⟨(eO n).map tupI,.none⟩:=by
 have:aM (aw bx (ae e ak)) ρ=aC (.fz ((eO n).map tupI)):=by
  unfold aM;rw[e9 h];exact DE Z
 unfold ft;rw[this];rfl
section
variable {S:aF}{k n g:Nat}{j:Int}{zs:List Int}{its:List D}
abbrev m8:TM:=aM (bh (aB (mK (.int 0)) (aB (mK (.int 0)) (aB (mK (.int 1)) (aB (mK (.int 0)) (aB (mK (.int 2)) (aB (mK (.int 1)) (aB (mK (.int 3)) (aB (mV 1) (ak))))))))))
theorem Iz{r:List (Option D)}(hs:d9 S k):∃(n:Nat) (S1:aF),aw maxD (ae (mK (.int 0)) (ae (aW i5 (mV 1) (aW b7 m8 (aM (aw aJ (ae (mV 0) (ae (mK (.int 8)) ak)))))) ak)) (ar (.lst k)::ar (.int g)::r) S=ar (.ok (.int n),S1)/\n<=g/\Kp k S S1/\S1.length=S.length:=by
 obtain⟨i,S1,R,Z,T,k1,U⟩:=jl (e1:=mV 0) (e2:=mK (.int 8)) (ρ:=ar (.lst k)::ar (.int g)::r) (m:=8) hs rfl rfl (by decide) (by decide)
 have X:m8 (ar (.lst k)::ar (.int g)::r)=aC (.fz [.int 0,.int 0,.int 1,.int 0,.int 2,.int 1,.int 3,.int g]):=bF (us:=[.int 0,.int 0,.int 1,.int 0,.int 2,.int 1,.int 3,.int g]) rfl (by show 8<=lim;unfold lim;omega)
 obtain⟨d,hd,W⟩:=tP (ds:=[.int 0,.int 0,.int 1,.int 0,.int 2,.int 1,.int 3,.int g]) Z T;have Y:∃u:Int,d= .int u/\0<=u:=by
  simp only[f',fb,or_false]at hd;rcases hd with rfl|rfl|rfl|rfl|rfl|rfl|rfl|rfl<;>exact⟨_,rfl,by omega⟩
 obtain⟨u,rfl,P⟩:=Y;have Q:aW i5 (mV 1) (aW b7 m8 (aM (aw aJ (ae (mV 0) (ae (mK (.int 8)) ak))))) (ar (.lst k)::ar (.int g)::r) S=ar (.ok (.int ((g:Int) - u)),S1):=
  (gw (f:=i5) (x:=.int g) (S1:=S) rfl ((gw (MT X S) R).trans (MT W S1))).trans rfl
 refine⟨((g:Int) - u).toNat,S1,?_,by omega,k1,U⟩
 refine(aO (cA (x:=.int 0) (S1:=S) rfl (cA Q rfl))).trans ?_;show ar (Res.ok (D.int (if (g:Int) - u>0 then (g:Int) - u else 0)),S1)=_;have:(if (g:Int) - u>0 then (g:Int) - u else 0)=(((g:Int) - u).toNat:Int):=by split<;>omega
 rw[this]
abbrev eW(k g n:Nat)(j:Int)(r:List (Option D)):aP:=ar (.lst k)::ar (.int g)::ar (.int n)::ar (.int j)::r
theorem Ft{r:List (Option D)}(hs:d9 S k)(P:n<=7)(O:0<=j):∃(rs:List (List Int)) (S2:aF),bC (ft (aM (aw bx (ae (mV 2) (ak))))) (gN 0) jt ju [none,ar 0,ar 3] (eW k g n j r) S=ar (.ok (.lst S2.length),S2++[rs.map tupI])/\rs.Sublist (eO n)/\Kp k S S2/\S2.length=S.length:=
 oj [ar (.lst k),ar (.int j)] (oo (by omega) rfl) (by have:=pairs_len (n:=n) (by omega);omega) rfl hs (fun d=>rfl) fun u Q W l=>by
  obtain⟨i,S1,X,R,N,k1,Y⟩:=jl (e1:=mV 1) (e2:=mK (.int 8)) (ρ:=[ar (tupI u),ar (.lst k),ar (.int j)]) (m:=8) W.st rfl rfl (by decide) (by decide)
  have U:aM (bh (ae (mK (.int 2)) (ae (mK (.int 4)) (ae (mK (.int 6)) (ak))))) [ar (tupI u),ar (.lst k),ar (.int j)]=aC (.fz [.int 2,.int 4,.int 6]):=bF (us:=[.int 2,.int 4,.int 6]) rfl (by show 3<=lim;unfold lim;omega)
  have hm:aW mq (mV 2) (mK (.int 3)) [ar (tupI u),ar (.lst k),ar (.int j)]=aC (.int (j % 3)):=(b9 (x:=.int j) (y:=.int 3) rfl rfl).trans (show mq (.int j) (.int 3)=_ from if_pos (e:=M.fail) (show(0:Int)<3 by decide))
  obtain⟨d,hd,T⟩:=tP (ds:=[.int 2,.int 4,.int 6]) (i:=j % 3) (by omega) (by show j % 3<3;omega)
  have Z:∃v:Int,d= .int v:=by
   simp only[f',fb,or_false]at hd;rcases hd with rfl|rfl|rfl<;>exact⟨_,rfl⟩
  obtain⟨v,rfl⟩:=Z;exact⟨decide (i<v),S1,DB (y:=.int v) X (MT ((b9 U hm).trans T) S1) rfl,k1,Y⟩
theorem IA{a:Nat}{q:Nat}{x7:Option D}(P:2<j)(T:j<7)(R:1<=a)(U:a<n)(Q:zs.length=n):∃r:List Int,cN fE (aM (cN bZ (aM (bh (ae (aW b7 (mV 5) (mV 6)) (ae (aW b7 (mV 5) (aW b7 (aM (bh (aB (aW i5 (mV 6) (mK (.int 1))) (aB (aW i5 (mV 6) (mK (.int 1))) (aB (mK (.int 0)) (aB (aW jc (mV 6) (mK (.int 2))) (ak))))))) (aW i5 (mV 3) (mK (.int 3))))) (ak))))))) (eW k g n j [ar (.lst q),ar (.fz (zs.map D.int)),ar (.int a),x7])=aC (tupI r):=by
 have Y:aM (bh (aB (aW i5 (mV 6) (mK (.int 1))) (aB (aW i5 (mV 6) (mK (.int 1))) (aB (mK (.int 0)) (aB (aW jc (mV 6) (mK (.int 2))) (ak)))))) (eW k g n j [ar (.lst q),ar (.fz (zs.map D.int)),ar (.int a),x7])=aC (.fz [.int ((a:Int) - 1),.int ((a:Int) - 1),.int 0,.int ((a:Int) / 2)]):=by
  have Z:aB (aW i5 (mV 6) (mK (.int 1))) (aB (aW i5 (mV 6) (mK (.int 1))) (aB (mK (.int 0)) (aB (aW jc (mV 6) (mK (.int 2))) ak))) (eW k g n j [ar (.lst q),ar (.fz (zs.map D.int)),ar (.int a),x7])=aC [.int ((a:Int) - 1),.int ((a:Int) - 1),.int 0,.int ((a:Int) / 2)]:=
   aQ (x:=.int ((a:Int) - 1)) rfl (aQ (x:=.int ((a:Int) - 1)) rfl (aQ (x:=.int 0) rfl (aQ (x:=.int ((a:Int) / 2)) ((b9 (x:=.int a) (y:=.int 2) rfl rfl).trans (show jc (.int a) (.int 2)=_ from if_pos (e:=M.fail) (show xr a 2 from⟨by decide,by decide⟩))) (es:=ak) rfl)))
  show iG (aB _ _ _>>=bD)=_;rw[Z,au];exact bF (us:=[.int ((a:Int) - 1),.int ((a:Int) - 1),.int 0,.int ((a:Int) / 2)]) rfl (by show 4<=lim;unfold lim;omega)
 obtain⟨d,hd,W⟩:=tP (ds:=[.int ((a:Int) - 1),.int ((a:Int) - 1),.int 0,.int ((a:Int) / 2)]) (i:=j - 3) (by omega) (by show j - 3<4;omega)
 have X:∃v:Int,d= .int v/\0<=v/\v<n:=by
  simp only[f',fb,or_false]at hd;rcases hd with rfl|rfl|rfl|rfl<;>exact⟨_,rfl,by omega,by omega⟩
 obtain⟨v,rfl,v0,v1⟩:=X;exact⟨_,DF ((b9 (x:=.fz (zs.map D.int)) (y:=.int a) rfl rfl).trans (om (by omega) (by omega))) ((b9 (x:=.fz (zs.map D.int)) rfl ((b9 (y:=.int (j - 3)) Y rfl).trans W)).trans (om v0 (by omega)))⟩
theorem zQ{q:Nat}{ρ:aP}{e:TM}{r:List Int}{acc:List (List Int)}(Y:mV 4 ρ=aC (.lst S.length))(Z:e ρ=aC (tupI r))(X:acc.length<=500):nj (vC c8 (mV 4) e) ρ (S++[acc.map tupI])=ar (.ok (.nx ρ),S++[(acc++[r]).map tupI]):=by
 refine tG (x:=.non) ((tL Y rfl (MT Z _)).trans ((yq cM (by rw[Mq];omega)).trans ?_))
 rw[NC,OF _ _ (Ms _),P1];rfl
theorem Gk(U:2<j)(X:j<7)(W:zs.length=n):∀(post:List Nat) (acc:List (List Int)) (x6 x7:Option D),(∀a∈post,1<=a/\a<n)->acc.length+post.length<=100->
  ∃(Y:Option D) (Z:List (List Int)),eL ⟨its,.none⟩ (gN 6) gK (post.map fun b:Nat=>.int (b:Int)) (eW k g n j [ar (.lst S.length),ar (.fz (zs.map D.int)),x6,x7]) (S++[acc.map tupI])=ar (.ok (.nx (eW k g n j [ar (.lst S.length),ar (.fz (zs.map D.int)),Y,x7])),S++[Z.map tupI])/\Z.length<=acc.length+post.length
 |[],acc,x6,x7,_,_=>⟨x6,acc,by rw[NR,gO];rfl,Ms _⟩
 |a::post,acc,x6,x7,ha,hl=>by
  rw[MW]at hl⊢;obtain⟨P,O⟩:=ha a (.head _);obtain⟨r,N⟩:=IA (k:=k) (g:=g) (q:=S.length) (x7:=x7) U X P O W;obtain⟨Y,Z,T,R⟩:=Gk U X W post (acc++[r]) (ar (.int a)) x7 (fun b Q=>ha b (.tail _ Q)) (by rw[Mu];show acc.length+1+_<=100;omega)
  refine⟨Y,Z,?_,by rw[Mu]at R;have:[r].length=1:=rfl;omega⟩
  rw[<-T,MU];exact j8 rfl (zQ (q:=0) rfl N (by omega))
theorem Kd{r:List (Option D)}(hs:d9 S k)(R:n<=7):∃(rs:List (List Int)) (S2:aF),aM (bC (ft (aM (aw bx (ae (mV 2) (ak))))) (gN 0) fJ fK [none,ar 0]) (eW k g n j r) S=ar (.ok (.fz (rs.map tupI)),S2)/\Kp k S S2/\S2.length=S.length:=by
 obtain⟨rs,S2,e,_,k2,Z⟩:=oj (t:=fJ) (m:=fK) (js:=[none,ar 0]) (ρ:=eW k g n j r) [ar (.lst k)] (oo (e:=mV 2) (by omega) rfl) (by have:=pairs_len (n:=n) (by omega);omega) rfl hs (fun d=>rfl) fun u T W l=>by
  obtain⟨i,S1,X,U,Q,k1,Y⟩:=jl (e1:=mV 1) (e2:=mK (.int 12)) (ρ:=[ar (tupI u),ar (.lst k)]) (m:=12) W.st rfl rfl (by decide) (by decide)
  exact⟨_,S1,DB (y:=.int 0) X rfl IT,k1,Y⟩
 exact⟨rs,S2,vf e k2 Z (eE _),k2,Z⟩
theorem Fu{q:Nat}{os acc:List (List Int)}{x5 x6:Option D}(hs:d9 S k)(L:n<=7)(U:S[q]? =ar (acc.map tupI))(X:q≠k):∃(rs:List (List Int)) (S2:aF),bC (ft (aM (aw bx (ae (mV 2) (ak))))) (gN 0) gL gM [none,ar 4,ar 7] (eW k g n j [ar (.lst q),x5,x6,ar (.fz (os.map tupI))]) S=ar (.ok (.lst S2.length),S2++[rs.map tupI])/\rs.Sublist (eO n)/\Kp k S S2/\S2.length=S.length:=
 oj [ar (.lst q),ar (.fz (os.map tupI))] (oo (by omega) rfl) (by have:=pairs_len (n:=n) (by omega);omega) rfl hs (fun d=>rfl) fun u Z W l=>by
  have Y:=(W.oth q (Mv.mp U).1 X).trans U;obtain⟨_,_,e1,b,rfl,rfl⟩:=Fm (r:=u) (Q:=fun d T=>∃b,d= .bl b/\Z=T) Y fun b=>⟨b,rfl,rfl⟩;obtain⟨c,e2⟩:=Iy (s:=u) (rs:=os);obtain⟨_,_,P,R,rfl,rfl⟩:=J6 (S:=Z) (a:=b) (b:=c) (Q:=fun d T=>∃b,d= .bl b/\Z=T) fun b=>⟨b,rfl,rfl⟩;refine⟨R,Z,?_,.refl W.st,rfl⟩;have O:aW inD (mV 0) (mV 1) [ar (tupI u),ar (.lst q),ar (.fz (os.map tupI))] Z=ar (.ok (.bl b),Z):=(MT (b9 (x:=tupI u) (y:=.lst q) rfl rfl) Z).trans e1;have N:aW inD (mV 0) (mV 2) [ar (tupI u),ar (.lst q),ar (.fz (os.map tupI))] Z=ar (.ok (.bl c),Z):=MT ((b9 (x:=tupI u) (y:=.fz (os.map tupI)) rfl rfl).trans e2) Z;exact aO ((gw O N).trans P)
end
section
variable {S:aF}{k n g:Nat}{j:Int}{zs:List Int}{its:List D}
theorem Ke{m:TM}{ρ:aP}(Z:n<=100)(h:m ρ=aC (.int n)):F9 (mK (.int 1)) m ρ=aC ⟨(pe 1 (n - 1)).map fun b:Nat=>.int (b:Int),.none⟩:=by
 have:=zO (a:=0) (m:=n);rw[Dm (x:=.int 1) rfl h,J3 (by omega)]
 rw[show((0:Nat):Int)+1=1 from rfl]at this;rw[this]
theorem Kf{ρ:aP}{q:Nat}{rs:List (List Int)}(hs:d9 S k)(U:n<=7)(T:mV 2 ρ=aC (.int n))(Y:mV 4 ρ=aC (.lst q))(g:S[q]? =ar (rs.map tupI))(X:rs.Sublist (eO n)):
  bz (eT (ae (mV 2) (ae (cN fE (aM (cN bZ (mV 4)))) (ak)))) ρ S=ar (.ok (.ret (ah n rs)),S):=by
 have w:WebOk n rs:=WebOk.of_sub U X;have hf:=w.few;have Z:aM (cN bZ (mV 4)) ρ S=ar (.ok (.fz (rs.map tupI)),S):=by
  unfold aM;rw[eB Y];have:=Bk hs g (fun r W=>by obtain⟨a,b,e,_⟩:=w.el r W;rw[e];rfl) (by omega)
  rw[Be w.ris]at this;exact this
 refine gr (rl (MT T S) ((tH Z).trans ?_));rw[rk (by rw[Mq];unfold lim;omega)];rfl
theorem IB{q:Nat}{acc:List (List Int)}{x6 x7:Option D}(T:n<=7)(R:zs.length=n)(U:acc.length<=100):∃acc2:List (List Int),gZ (ye (c9 il (mV 3) (mK (.int 4))) (c9 yN (mV 2) (mK (.int 2)))) (nj (vC c8 (mV 4) (cN fE (aM (cN bZ (aM (bh (ae (aW b7 (mV 5) (mK (.int 0))) (ae (aW b7 (mV 5) (aW i5 (mV 2) (mK (.int 1)))) (ak)))))))))) (cG) (eW k g n j [ar (.lst S.length),ar (.fz (zs.map D.int)),x6,x7]) (S++[acc.map tupI])=ar (.ok (.nx (eW k g n j [ar (.lst S.length),ar (.fz (zs.map D.int)),x6,x7])),S++[acc2.map tupI]):=by
 have X:c9 il (mV 3) (mK (.int 4)) (eW k g n j [ar (.lst S.length),ar (.fz (zs.map D.int)),x6,x7])=aC (decide (j=4)):=bM (x:=.int j) (y:=.int 4) rfl rfl IT;have W:c9 yN (mV 2) (mK (.int 2)) (eW k g n j [ar (.lst S.length),ar (.fz (zs.map D.int)),x6,x7])=aC (decide (2<(n:Int))):=bM (x:=.int n) (y:=.int 2) rfl rfl rfl;have Z:ye (c9 il (mV 3) (mK (.int 4))) (c9 yN (mV 2) (mK (.int 2))) (eW k g n j [ar (.lst S.length),ar (.fz (zs.map D.int)),x6,x7])=aC (decide (j=4) && decide (2<(n:Int))):=by
  show(c9 il _ _ _>>=_)=_;rw[X,au];cases decide (j=4)with
  |false=>rfl
  |true=>exact W
 by_cases h:(decide (j=4) && decide (2<(n:Int)))=b_
 ·have Y:2<n:=by
   have:=Nm ((M5 _ _).mp h).2;omega
  refine⟨_,(MT ((bb Z).trans (if_pos h)) _).trans (zQ (q:=0) rfl (DF (x:=zs.getD 0 0) (y:=zs.getD (n - 1) 0) ?_ ?_) (by omega))⟩
  ·exact(b9 (x:=.fz (zs.map D.int)) (y:=.int 0) rfl rfl).trans (om (by decide) (by omega))
  ·refine(b9 (x:=.fz (zs.map D.int)) (y:=.int ((n:Int) - 1)) rfl rfl).trans ((om (by omega) (by omega)).trans ?_)
   rw[show((n:Int) - 1).toNat=n - 1 by omega]
 ·exact⟨acc,(MT ((bb Z).trans (if_neg h)) _).trans rfl⟩
theorem IC(hg:g<=7)(hs:d9 S k):∃(n:Nat) (E:List (List Int)) (S1:aF),iG (d0 [.lst k,.int g]) S=ar (.ok (ah n E),S1)/\n<=g/\WebOk n E/\Kp k S S1/\S1.length=S.length:=by
 obtain⟨n,T1,e1,hn,k1,l1⟩:=Iz (g:=g) (r:=[none,none,none,none,none,none]) hs;have Y:n<=7:=by omega
 obtain⟨j,T2,e2,j0,j7,k2,l2⟩:=jl (e1:=mV 0) (e2:=mK (.int 7)) (ρ:=[ar (.lst k),ar (.int g),ar (.int n),none,none,none,none,none]) (m:=7) k1.st rfl rfl (by decide) (by decide)
 obtain⟨rs,R,v,h,k3,l3⟩:=Ft (g:=g) (n:=n) (j:=j) (r:=[none,none,none,none]) k2.st Y j0;have G:=Kp.grow k3.st [rs.map tupI];obtain⟨zs,X,e4,s,k5,l5⟩:=rC (n:=n) (ρ:=eW k g n j [ar (.lst R.length),none,none,none]) (e1:=mV 0) (e2:=mV 2) G.st (by omega) rfl rfl
 have H:zs.length=n:=by rw[s.length_eq];unfold fG;simp
 have A:k<R.length:=by have:=hs.lt;omega
 have e:X[R.length]? =ar (rs.map tupI):=(k5.oth R.length (by simp) (by omega)).trans cM
 have J:=((k1.trans k2).trans k3).trans (G.trans k5);have key:∃(x4:Nat) (Z:List (List Int)) (ρ:aP) (T:aF),gZ (c9 yN (mV 3) (mK (.int 2))) (aI (bA 4 (bh (ak))) (aI (i7 (F9 (mK (.int 1)) (mV 2)) (gN 6) gK) (aI (gZ (ye (c9 il (mV 3) (mK (.int 4))) (c9 yN (mV 2) (mK (.int 2)))) (nj (vC c8 (mV 4) (cN fE (aM (cN bZ (aM (bh (ae (aW b7 (mV 5) (mK (.int 0))) (ae (aW b7 (mV 5) (aW i5 (mV 2) (mK (.int 1)))) (ak)))))))))) (cG)) (aI (bA 7 (aM (bC (ft (aM (aw bx (ae (mV 2) (ak))))) (gN 0) fJ fK [none,ar 0]))) (bA 4 (bC (ft (aM (aw bx (ae (mV 2) (ak))))) (gN 0) gL gM [none,ar 4,ar 7])))))) (cG) (eW k g n j [ar (.lst R.length),ar (.fz (zs.map D.int)),none,none]) X=ar (.ok (.nx ρ),T)/\mV 2 ρ=aC (.int n)/\mV 4 ρ=aC (.lst x4)/\T[x4]? =ar (Z.map tupI)/\Z.Sublist (eO n)/\Kp k S T:=by
  have I:c9 yN (mV 3) (mK (.int 2)) (eW k g n j [ar (.lst R.length),ar (.fz (zs.map D.int)),none,none])=aC (decide (2<j)):=bM (x:=.int j) (y:=.int 2) rfl rfl rfl;by_cases hj:2<j
  ·have hi:=Ke (n:=n) (m:=mV 2) (ρ:=eW k g n j [ar (.lst X.length),ar (.fz (zs.map D.int)),none,none]) (by omega) rfl
   obtain⟨K,acc,N,C⟩:=Gk (S:=X) (k:=k) (g:=g) (its:=(pe 1 (n - 1)).map fun b:Nat=>.int (b:Int)) hj j7 H (pe 1 (n - 1)) [] none none (fun a w=>by have:=Qf.mp w;omega) (by rw[P0];simp;omega)
   rw[P0]at C;obtain⟨U,P⟩:=IB (S:=X) (k:=k) (g:=g) (j:=j) (zs:=zs) (q:=0) (x6:=K) (x7:=none) Y H (acc:=acc) (by simp at C;omega)
   have Q:=Kp.grow k5.st [U.map tupI];obtain⟨os,u,f,L,l7⟩:=Kd (g:=g) (n:=n) (j:=j) (r:=[ar (.lst X.length),ar (.fz (zs.map D.int)),K,none]) Q.st Y;have z:k<X.length:=by have:=k5.len;simp at this;omega
   have O:u[X.length]? =ar (U.map tupI):=(L.oth X.length (by simp) (by omega)).trans cM
   obtain⟨Z,t,p,W,F,l8⟩:=Fu (g:=g) (n:=n) (j:=j) (os:=os) (x5:=ar (.fz (zs.map D.int))) (x6:=K) L.st Y O (by omega)
   refine⟨t.length,Z,_,_,(MT ((bb I).trans (if_pos (MF hj))) X).trans ((aS (bN (dv (S:=X) (us:=[]) (ML _)))).trans ((aS (n8 hi N)).trans ((aS P).trans ((aS (bN f)).trans (bN p))))),rfl,rfl,cM,W,J.trans ((Q.trans L).trans (F.trans (Kp.grow F.st _)))⟩
  ·exact⟨R.length,rs,_,_,(MT ((bb I).trans (if_neg (by rw[Nh];exact hj))) X).trans rfl,rfl,rfl,e,h,J⟩
 obtain⟨x4,Z,ρ,T,N,l,i,O,W,B⟩:=key;have hm:jY [ar (.lst k),ar (.int g),none,none,none,none,none,none] S=ar (.ok (.ret (ah n Z)),T):=by
  unfold jY;exact(aS (bN e1)).trans ((aS (bN e2)).trans ((aS (bN v)).trans ((aS (bN e4)).trans ((aS N).trans (Kf B.st Y l i O W)))))
 obtain⟨S1,P,Q⟩:=wU (c:=d0 [.lst k,.int g]) (d:=ah n Z) hs (fW (o:=.ret (ah n Z)) hm rfl) B rA;exact⟨n,Z,S1,P,hn,WebOk.of_sub Y W,Q⟩
abbrev eG(k n q:Nat)(r:List (Option D)):aP:=ar (.lst k)::ar (.int n)::ar (.lst q)::r
theorem Gm{B:aF}(L:k<B.length)(E:8<=n)(X:n<=14):∀(post:List Nat) (acc:List (List Int)) (S':aF) (x3 x4 x5:Option D),acc.length+post.length<=100->rB n acc->S'[B.length]? =ar (acc.map tupI)->Kp k B S'->
  ∃(U T W:Option D) (Z:List (List Int)) (S2:aF),eL ⟨its,.none⟩ (gN 3) fF (post.map fun i:Nat=>.int (0+(i:Int))) (eG k n B.length [x3,x4,x5]) S'=ar (.ok (.nx (eG k n B.length [U,T,W])),S2)/\S2[B.length]? =ar (Z.map tupI)/\rB n Z/\Z.length<=acc.length+post.length/\Kp k B S2
 |[],acc,S',x3,x4,x5,_,gt,g,kp=>⟨x3,x4,x5,acc,S',by rw[NR,gO];rfl,g,gt,Ms _,kp⟩
 | a ::post,acc,S',x3,x4,x5,hl,gt,g,kp=>by
  rw[MW]at hl⊢;obtain⟨i,N,e1,u,r,k1,t⟩:=jl (e1:=mV 0) (e2:=mV 1) (ρ:=eG k n B.length [ar (.int (0+(a:Int))),x4,x5]) (m:=n) kp.st rfl rfl (by omega) (by omega)
  obtain⟨v,Y,e2,v0,v1,k2,A⟩:=jl (e1:=mV 0) (e2:=aW i5 (mV 1) (mK (.int 1))) (ρ:=eG k n B.length [ar (.int (0+(a:Int))),ar (.int i),x5]) (m:=(n:Int) - 1) k1.st rfl rfl (by omega) (by omega)
  have J:=(Mv.mp g).1;have g2:=(k2.oth B.length (by omega) (by omega)).trans ((k1.oth B.length J (by omega)).trans g)
  have O:aW mq (aW bI (aW bI (mV 4) (mK (.int 1))) (aM (aw aJ (ae (mV 0) (ae (aW i5 (mV 1) (mK (.int 1))) ak))))) (mV 1) (eG k n B.length [ar (.int (0+(a:Int))),ar (.int i),x5]) N=ar (.ok (.int ((i+1+v) % n)),Y):=
   (gw ((gw (f:=bI) (x:=.int (i+1)) (S1:=N) rfl e2).trans rfl) (y:=.int n) rfl).trans (MT (show mq (.int (i+1+v)) (.int n)=_ from if_pos (e:=M.fail) (show(0:Int)<n by omega)) Y)
  generalize hw:(i+1+v) % (n:Int)=w at O;have q:0<=w:=by rw[<-hw];exact Oy _ (by omega)
  have p:w<n:=by rw[<-hw];exact N6 _ (by omega)
  have I:i≠w:=by
   intro e;have F:=Int.mul_ediv_add_emod (i+1+v) n;rw[hw]at F;have z:(n:Int)*((i+1+v) / n)=1+v:=by omega
   have s:0<(i+1+v) / (n:Int):=by
    rcases Int.lt_or_le 0 ((i+1+v) / (n:Int))with h|h
    ·exact h
    ·have:=Int.mul_nonpos_of_nonneg_of_nonpos (a:=(n:Int)) (by omega) h
     omega
   have:=Int.mul_le_mul_of_nonneg_left (show 1<=(i+1+v) / (n:Int) by omega) (show(0:Int)<=n by omega)
   omega
  have P:aw minD (ae (mV 4) (ae (mV 5) ak)) (eG k n B.length [ar (.int (0+(a:Int))),ar (.int i),ar (.int w)])=aC (.int (if w<i then w else i)):=(call2 (x:=.int i) (y:=.int w) rfl rfl).trans rfl;have Q:aw maxD (ae (mV 4) (ae (mV 5) ak)) (eG k n B.length [ar (.int (0+(a:Int))),ar (.int i),ar (.int w)])=aC (.int (if w>i then w else i)):=(call2 (x:=.int i) (y:=.int w) rfl rfl).trans rfl;obtain⟨U,T,W,Z,S2,K,H,R,C,G⟩:=Gm L E X post (acc++[[if w<i then w else i,if w>i then w else i]]) (Y.set B.length ((acc++[[if w<i then w else i,if w>i then w else i]]).map tupI)) (ar (.int (0+(a:Int)))) (ar (.int i)) (ar (.int w)) (by rw[Mu];show acc.length+1+_<=100;omega)
   (gt.snoc (by split<;>omega) (by split<;>split<;>omega) (by split<;>omega)) (M9 (by omega)) (((kp.trans k1).trans k2).set (Ms _) L)
  refine⟨U,T,W,Z,S2,?_,H,R,by rw[Mu]at C;have:[[if w<i then w else i,if w>i then w else i]].length=1:=rfl;omega,G⟩
  rw[<-K,MU];refine j8 rfl ((aS (bN e1)).trans ((aS (bN O)).trans (tG (x:=.non) ((tL (x:=.lst B.length) (y:=tupI [if w<i then w else i,if w>i then w else i]) (S1:=Y) rfl rfl (rl (MT P Y) (MT Q Y))).trans ((yq g2 (by rw[Mq];omega)).trans ?_)))))
  rw[NC];rfl
theorem DG(hs:d9 S k):∃(n:Nat) (E:List (List Int)) (S1:aF),iG (cn [.lst k]) S=ar (.ok (ah n E),S1)/\8<=n/\n<=14/\WebOk n E/\Kp k S S1/\S1.length=S.length:=by
 obtain⟨j,B,J,v,z,k1,y⟩:=jl (e1:=mV 0) (e2:=mK (.int 7)) (ρ:=[ar (.lst k),none,none,none,none,none]) (m:=7) hs rfl rfl (by decide) (by decide)
 obtain⟨n,G⟩:∃n:Nat,8+j=n:=⟨(8+j).toNat,by omega⟩
 have F:k<B.length:=by have:=hs.lt;omega
 obtain⟨i,X,O,A,u,k2,C⟩:=jl (e1:=mV 0) (e2:=mK (.int 12)) (ρ:=eG k n B.length [none,none,none]) (m:=12) (Kp.grow k1.st [[]]).st rfl rfl (by decide) (by decide)
 have g1:X[B.length]? =ar (([]:List (List Int)).map tupI):=(k2.oth B.length (by simp) (by omega)).trans cM
 obtain⟨Q,N,U,acc,S2,P,g3,Y,W,k3⟩:=Gm (n:=n) (its:=bu 0 i.toNat) F (by omega) (by omega) (eb i.toNat) [] X none none none (by rw[MR];simp;omega) (fun t Z=>by cases Z) g1 ((Kp.grow k1.st [[]]).trans k2)
 rw[MR]at W;have R:acc.length<=18:=by simp at W;omega
 have w:WebOk n (iM acc):=⟨fun t Z=>Y t (Bh.mp Z),Bi acc,by have:=oh acc;omega⟩
 have hi:ki (aM (aw aJ (ae (mV 0) (ae (mK (.int 12)) ak)))) (eG k n B.length [none,none,none]) (B++[[]])=ar (.ok ⟨bu 0 i.toNat,.none⟩,X):=by
  rw[Iv O,Dn (by omega)];rfl
 have H:aW bI (mK (.int 8)) (aM (aw aJ (ae (mV 0) (ae (mK (.int 7)) ak)))) [ar (.lst k),none,none,none,none,none] S=ar (.ok (.int n),B):=by
  rw[gw (f:=bI) (x:=.int 8) (S1:=S) rfl J, <-G];rfl
 have L:aM (cN ni (mV 2)) (eG k n B.length [Q,N,U]) S2=ar (.ok (.fz ((iM acc).map tupI)),S2):=by
  refine vf ((tH (x:=.lst B.length) (S1:=S2) rfl).trans ?_) (Kp.refl k3.st) rfl (eE _);show(getL B.length>>=fun xs=>match rowsOf xs with|some nss=>dO nss|none=>M.fail) S2=_
  rw[aO (eQ g3),rq];have Z:two acc=true:=MM.mpr fun x T=>by rw[Y.two x T];rfl
  show dO acc S2=_;unfold dO;rw[if_pos ⟨R,Z⟩];exact dv (by rw[Mq];have:=oh acc;unfold lim;omega)
 have hm:fy [ar (.lst k),none,none,none,none,none] S=ar (.ok (.ret (ah n (iM acc))),S2):=by
  unfold fy;refine(aS (bN H)).trans ((aS (bN (dv (S:=B) (us:=[]) (ML _)))).trans ((aS (zN hi P)).trans (gr (rl (x:=.int n) (S1:=S2) rfl ((tH L).trans ?_)))));rw[rk (by rw[Mq];have:=oh acc;unfold lim;omega)];rfl
 obtain⟨S1,K,I⟩:=wU (c:=cn [.lst k]) (d:=ah n (iM acc)) hs (fW (o:=.ret (ah n (iM acc))) hm rfl) (k1.trans k3) rA;exact⟨n,_,S1,K,by omega,by omega,w,I⟩
def yt(zs:List Int)(t:List Int):List Int:=sortI [zs.getD (t.getD 0 0).toNat 0,zs.getD (t.getD 1 0).toNat 0]
def LZ(zs:List Int):D->D
 | .tup [.int a,.int b]=>tupI (yt zs [a,b])
 |d=>d
theorem ID{x y:Int}(h:x≠y):∃a b,sortI [x,y]=[a,b]/\a<b/\(a=x/\b=y\/a=y/\b=x):=by
 by_cases c:x<=y
 ·refine⟨x,y,?_,by omega,.inl ⟨rfl,rfl⟩⟩
  show insI x [y]=_;unfold insI;exact if_pos c
 ·refine⟨y,x,?_,by omega,.inr ⟨rfl,rfl⟩⟩
  show insI x [y]=_;unfold insI;exact if_neg c
theorem DH{E:List (List Int)}(T:zs.Perm (fG n))(w:WebOk n E):WebOk n (dz (E.map (yt zs))):=by
 have P:∀t∈E,∃x y a b:Int,yt zs t=[a,b]/\a<b/\t=[x,y]/\0<=x/\x<y/\y<n/\(a=zs.getD x.toNat 0/\b=zs.getD y.toNat 0\/a=zs.getD y.toNat 0/\b=zs.getD x.toNat 0):=fun t W=>by
  obtain⟨x,y,rfl,x0,Q,Z⟩:=w.el t W;obtain⟨a,b,e,B,F⟩:=ID (x:=zs.getD x.toNat 0) (y:=zs.getD y.toNat 0) fun z=>by have:=wV T (i:=x.toNat) (j:=y.toNat) (by omega) (by omega) z;omega
  exact⟨x,y,a,b,e,B,rfl,x0,Q,Z,F⟩
 have C:E.Nodup:=w.ris.imp fun{a b} h e=>by subst e;rw[lj]at h;cases h
 refine WebOk.sort (Oc.mpr (Ql (fun{s t} hs W hne e=>hne ?_) C)) (fun t W=>?_) (by rw[Mq];exact w.few)
 ·obtain⟨s,hs,rfl⟩:=MJ.mp W;obtain⟨x,y,a,b,e1,R,rfl,x0,Q,Z,J⟩:=P s hs;have r:=zM T (i:=x.toNat) (by omega)
  have o:=zM T (i:=y.toNat) (by omega)
  exact⟨a,b,e1,by omega,R,by omega⟩
 ·obtain⟨x,y,a,b,e1,_,rfl,x0,Q,Z,J⟩:=P s hs;obtain⟨u,v,c,d,e2,_,rfl,K,m,L,G⟩:=P t W;rw[e1,e2]at e;have A:=(NP e).1;have l:=(NP (NP e).2).1;have inj:=fun(p q:Int) (p0:0<=p) (pn:p<n) (q0:0<=q) (qn:q<n) z=>wV T (i:=p.toNat) (j:=q.toNat) (by omega) (by omega) z
  have H:=inj x u x0 (by omega) K (by omega)
  have O:=inj y v (by omega) Z (by omega) L
  have N:=inj x v x0 (by omega) (by omega) L
  have I:=inj y u (by omega) Z K (by omega)
  generalize zs.getD x.toNat 0=X at*;generalize zs.getD y.toNat 0=Y at*;generalize zs.getD u.toNat 0=U at*;generalize zs.getD v.toNat 0=V at*;have:x=u/\y=v:=by
   rcases J with⟨c11,c12⟩|⟨c11,c12⟩<;>rcases G with⟨c21,c22⟩|⟨c21,c22⟩
   ·have:=H (by omega);have:=O (by omega);omega
   ·have:=N (by omega);have:=I (by omega);omega
   ·have:=N (by omega);have:=I (by omega);omega
   ·have:=H (by omega);have:=O (by omega);omega
  rw[this.1,this.2]
theorem Fv{E:List (List Int)}(X:zs.Perm (fG n))(w:WebOk n E):dZ [ah n E,.fz (zs.map D.int)]=aC (ah n (dz (E.map (yt zs)))):=by
 have T:zs.length=n:=by rw[X.length_eq];unfold fG;simp
 have wS:=DH X w;have hf:=w.few;have em:((E.map tupI).filter fun _=>b_).map (LZ zs)=(E.map (yt zs)).map tupI:=by
  rw[gq,MZ,MZ];refine OT fun t Z=>?_;obtain⟨x,y,rfl,_⟩:=w.el t Z;rfl
 have W:=fL (mi:=ft (aW b7 (mV 0) (mK (.int 1)))) (g:=gR 2 (bS (gN 0) (bS (gN 1) ie))) (t:=hU) (m:=hV) (js:=[none,none,ar 1]) (ρ:=[ar (ah n E),ar (.fz (zs.map D.int))]) (its:=E.map tupI) (fun ρ=>∃x y,ρ=[x,y,ar (.fz (zs.map D.int))]) (fun _=>b_) (LZ zs) rfl (by rw[Mq];unfold lim;omega) ⟨none,none,rfl⟩
  (fun d hd ρ ⟨x,y,hρ⟩=>by
   subst hρ;obtain⟨t,Z,rfl⟩:=MJ.mp hd;obtain⟨a,b,rfl,a0,ab,bn⟩:=w.el t Z;refine⟨[ar (.int a),ar (.int b),ar (.fz (zs.map D.int))],rfl,⟨_,_,rfl⟩,rfl,fun _=>?_⟩;exact DF ((b9 (x:=.fz (zs.map D.int)) (y:=.int a) rfl rfl).trans (om a0 (by omega))) ((b9 (x:=.fz (zs.map D.int)) (y:=.int b) rfl rfl).trans (om (by omega) (by omega)))) (by rw[em];exact eE _)
 rw[em]at W;have Y:((dz (E.map (yt zs))).map tupI).length<=lim:=by rw[Mq];have:=wS.few;unfold lim;omega
 refine cZ (o:=.ret (ah n (dz (E.map (yt zs))))) (eN ?_) rfl;show(ae _ _ _>>=bK)=_;rw[aQ (x:=.int n) rfl (aQ (x:=.tup ((dz (E.map (yt zs))).map tupI)) ((eB (x:=.fz ((dz (E.map (yt zs))).map tupI)) ?_).trans (rk Y)) (es:=ak) rfl),au]
 ·unfold bK;exact if_pos pq
 ·show iG (cN bZ _ [ar (ah n E),ar (.fz (zs.map D.int))])=_;rw[eB W];show iG (qG ((E.map (yt zs)).map tupI))=_;rw[tN (fun r U=>by
   have:=(cm (E.map (yt zs))).mem_iff.mpr U;obtain⟨a,b,e,_⟩:=wS.el r this;rw[e];rfl) (by rw[Mq];omega)]
  exact bF (eE _) Y
end
theorem zR(s:List Int):∀rs:List (List Int),((rs.map j9).any fun y=>gg y (j9 s))=decide (s∈rs)
 |[]=>by simp
 | r::rs=>by
  rw[MU,QS,zR s rs];have:gg (j9 r) (j9 s)=decide (r=s):=by
   unfold j9 gg;exact nH r s
  rw[this,OD];simp only[A_,decide_eq_true_eq,f'];exact or_congr ⟨Eq.symm,Eq.symm⟩ Iff.rfl
theorem zS{s:List Int}{rs:List (List Int)}:inD (tupI s) (.tup (rs.map tupI))=aC (.bl (decide (s∈rs))):=bp fun S=>by
 unfold inD;have Z:gS S 60 (.tup (rs.map tupI))=ar (.tuple (rs.map j9)):=by
  show(mapP (gS S 59) (rs.map tupI)).map Rp=_;rw[lC];rfl
 exact(nk (iB s) Z (r:=decide (s∈rs)) (by show ar (id ((rs.map j9).any fun y=>gg y (j9 s)))=_;rw[zR];rfl)).mpr ⟨rfl,rfl⟩
theorem DI{p:Int}{t:List Int}:qh (.int p) (tupI t)=aC (.bl (!iX p t)):=bp fun S=>by
 unfold qh;exact(nk (iA) (iB t) (r:= !iX p t) (by show ar (!((t.map oD).any fun y=>gg y (.int p)))=_;rw[vg])).mpr ⟨rfl,rfl⟩
theorem LK{a b:Bool}:il (.bl a) (.bl b)=aC (.bl (a==b)):=bp fun S=>Gf.mpr ⟨rfl,rfl⟩
theorem Kg{a b:Bool}:fV (.bl a) (.bl b)=aC (.bl (a !=b)):=bp fun S=>by
 unfold fV;refine(dY kR kR).mpr ⟨?_,rfl⟩;cases a<;>cases b<;>rfl
def tB(E:List (List Int))(a b:Int):Bool:=decide ([if b<a then b else a,if b>a then b else a]∈E)
section
variable {n n':Nat}{E E':List (List Int)}
theorem mm{ρ:aP}{e1 e2:TM}{a b:Int}(Y:e1 ρ=aC (.int a))(Z:e2 ρ=aC (.int b)):eT (ae (aw minD (ae e1 (ae e2 ak))) (ae (aw maxD (ae e1 (ae e2 ak))) ak)) ρ=aC (tupI [if b<a then b else a,if b>a then b else a]):=by
 show(ae _ _ _>>=bK)=_;rw[aQ ((call2 (F:=minD) Y Z).trans rfl) (aQ ((call2 (F:=maxD) Y Z).trans rfl) (es:=ak) rfl),au];unfold bK;exact if_pos pq
theorem DJ{a b:Int}:eV [ah n E,.int a,.int b]=aC (.bl (tB E a b)):=
 cZ (o:=.ret (.bl (tB E a b))) (eN ((b9 (y:=.tup (E.map tupI)) (mm (a:=a) (b:=b) rfl rfl) rfl).trans zS)) rfl
theorem pM{a b:Int}:bU [ah n E,.int a,.int b]=aC (.bl (tB E a b)):=
 cZ (o:=.ret (.bl (tB E a b))) (eN ((b9 (y:=.tup (E.map tupI)) (mm (a:=a) (b:=b) rfl rfl) rfl).trans zS)) rfl
def DK(E E':List (List Int))(r:List Int)(p:Int)(i:Nat):Bool:=tB E (i:Int) (r.length:Int)==tB E' (r.getD i 0) p
def mI(E E':List (List Int))(r:List Int)(p:Int):Bool:= !iX p r && (eb r.length).all (DK E E' r p)
def lK(E E':List (List Int))(r:List Int)(p:Int):D->D
 | .int i=>.bl (DK E E' r p i.toNat)
 |d=>d
theorem Kh(n:Nat):bu 0 n=(eb n).map fun i:Nat=>D.int (i:Int):=by
 unfold bu;exact OT fun i _=>by rw[Pi]
theorem vh{m:TM}{ρ:aP}{n:Nat}(h:m ρ=aC (.int n))(Z:n<=1000):ki m ρ=aC ⟨(eb n).map fun i:Nat=>D.int (i:Int),.none⟩:=by
 have:=(uS h).trans (Dn (by omega))
 rw[M8,Kh]at this;exact this
theorem DL{r:List Int}{p:Int}(T:r.length<=100):df [ah n E,ah n' E',tupI r,.int p]=aC (.bl (mI E E' r p)):=by
 have hlen:∀x,cN dW (mV 2) [ar (ah n E),ar (ah n' E'),ar (tupI r),ar (.int p),x]=aC (.int r.length):=fun x=>by
  refine(eB (x:=tupI r) rfl).trans ?_;show aC (D.int (r.map D.int).length)=_;rw[Mq]
 have Z:c9 inD (mV 3) (mV 2) [ar (ah n E),ar (ah n' E'),ar (tupI r),ar (.int p),ar (.int r.length)]=aC (iX p r):=bM (x:=.int p) (y:=tupI r) rfl rfl Gj;refine cZ (o:=.ret (.bl (mI E E' r p))) ?_ rfl;unfold n5 mI;refine(aV (gF (hlen _))).trans ?_;cases hp:iX p r with
 |true=>exact cz ((bb Z).trans ((if_pos hp).trans rfl))
 | false=>
  refine(aV (ρ':=[ar (ah n E),ar (ah n' E'),ar (tupI r),ar (.int p),ar (.int r.length)]) ((bb Z).trans (if_neg (by rw[hp];decide)))).trans (eN ?_)
  have em:(((eb r.length).map fun i:Nat=>D.int (i:Int)).filter fun _=>b_).map (lK E E' r p)=((eb r.length).map (DK E E' r p)).map D.bl:=by
   rw[gq,MZ,MZ];rfl
  have Y:=fL (mi:=ki (mV 4)) (g:=gN 0) (t:=jW) (m:=jX) (js:=[none,ar 0,ar 4,ar 1,ar 2,ar 3]) (ρ:=[ar (ah n E),ar (ah n' E'),ar (tupI r),ar (.int p),ar (.int r.length)]) (its:=(eb r.length).map fun i:Nat=>D.int (i:Int))
   (fun ρ=>∃x,ρ=[x,ar (ah n E),ar (.int r.length),ar (ah n' E'),ar (tupI r),ar (.int p)]) (fun _=>b_) (lK E E' r p) (vh rfl (by omega)) (by rw[Mq,MR];unfold lim;omega) ⟨none,rfl⟩
   (fun d hd ρ ⟨x,hρ⟩=>by
    subst hρ;obtain⟨i,hi,rfl⟩:=MJ.mp hd;have hi:=MC.mp hi;refine⟨[ar (.int i),ar (ah n E),ar (.int r.length),ar (ah n' E'),ar (tupI r),ar (.int p)],rfl,⟨_,rfl⟩,rfl,fun _=>?_⟩;have W:=iZ (e:=aw eV (ae (mV 1) (ae (mV 0) (ae (mV 2) ak)))) (ρ:=[ar (.int i),ar (ah n E),ar (.int r.length),ar (ah n' E'),ar (tupI r),ar (.int p)]) ((kf (x:=ah n E) (y:=.int i) (z:=.int r.length) rfl rfl rfl).trans DJ);have U:aW b7 (mV 4) (mV 0) [ar (.int i),ar (ah n E),ar (.int r.length),ar (ah n' E'),ar (tupI r),ar (.int p)]=aC (.int (r.getD i 0)):=by
     refine(b9 (x:=tupI r) (y:=.int i) rfl rfl).trans ((pL (by omega) (by omega)).trans ?_)
     rw[M8]
    have X:=iZ (e:=aw eV (ae (mV 3) (ae (aW b7 (mV 4) (mV 0)) (ae (mV 5) ak)))) ((kf (x:=ah n' E') (z:=.int p) rfl U rfl).trans DJ);exact(b9 W X).trans LK) (by rw[em];exact n6 _)
  rw[em]at Y;refine(eB Y).trans (oa.trans ?_);rw[Ox];rfl
end
theorem zT{its ds:List D}{d v:D}{g:nO}{b:cV}{ρ Z:aP}(h:g d ρ=aC Z)(Y:b Z=aC (.ret v)):eL ⟨its,.none⟩ g b (d::ds) ρ=aC (.ret v):=by
 rw[eL,cX,au,h,au,Y];rfl
theorem vi{its ds:List D}{d:D}{g:nO}{b:cV}{ρ Z Y:aP}(h:g d ρ=aC Z)(X:b Z=aC (.nx Y)):eL ⟨its,.none⟩ g b (d::ds) ρ=eL ⟨its,.none⟩ g b ds Y:=by
 rw[eL,cX,au,h,au,X];rfl
def ext(n:Nat)(E E':List (List Int))(r:List Int):List (List Int):=((eb n).filter fun p:Nat=>mI E E' r p).map fun p:Nat=>r++[(p:Int)]
def km(n:Nat)(E E':List (List Int)):Nat->List (List Int)->List (List Int)
 |0,rs=>rs
 |k+1,rs=>km n E E' k (rs.flatMap (ext n E E'))
def fX:Option (List Int)->D
 |some r=>tupI r
 |none=>.non
section
variable {n:Nat}{E E':List (List Int)}
theorem zU:∀(k:Nat) (a b:List (List Int)),km n E E' k (a++b)=km n E E' k a++km n E E' k b
 |0,_,_=>rfl
 |k+1,a,b=>by
  unfold km;rw[List.flatMap_append,zU k]
theorem zV:∀k:Nat,km n E E' k []=[]
 |0=>rfl
 |k+1=>zV k
theorem zW{r:List Int}{p:Int}{ρ:aP}{e1 e2:TM}(Z:e1 ρ=aC (tupI r))(Y:e2 ρ=aC (.int p))(W:r.length<=100):aM (aW bI e1 (eT (ae e2 ak))) ρ=aC (tupI (r++[p])):=by
 have X:eT (ae e2 ak) ρ=aC (tupI [p]):=by
  show(ae _ _ _>>=bK)=_;rw[aQ Y (es:=ak) rfl,au];unfold bK;exact if_pos (show 1<=lim by unfold lim;omega)
 refine iZ ((b9 Z X).trans ?_);show bK (r.map D.int++[p].map D.int)=_;unfold bK;rw[<-NC,if_pos (by rw[Mq,Mu];show r.length+1<=lim;unfold lim;omega)];rfl
theorem zX{n':Nat}:∀(f:Nat) (r:List Int),r.length<=n->n<=7->n+1<=f+r.length->bP f [ah n E,ah n' E',tupI r]=aC (fX (km n E E' (n - r.length) [r]).head?)
 |0,r,X,_,Z=>by omega
 | f + 1,r,hr,hn,hf=>by
  have hlen:cN dW (mV 2) [ar (ah n E),ar (ah n' E'),ar (tupI r),ar (.int n),none,none]=aC (.int r.length):=by
   refine(eB (x:=tupI r) rfl).trans ?_;show aC (D.int (r.map D.int).length)=_;rw[Mq]
  have T:c9 il (cN dW (mV 2)) (mV 3) [ar (ah n E),ar (ah n' E'),ar (tupI r),ar (.int n),none,none]=aC (decide ((r.length:Int)=n)):=bM hlen (y:=.int n) rfl IT;by_cases hl:r.length=n
  ·refine cZ (o:=.ret (tupI r)) ?_ ?_
   ·exact(aV (gF (x:=.int n) rfl)).trans (cz ((bb T).trans ((if_pos (MF (by omega))).trans rfl)))
   ·rw[hl,P1];rfl
  ·obtain⟨k,R⟩:∃k,n - r.length=k+1:=⟨n - r.length - 1,by omega⟩
   have key:∀(post:List Nat) (x4 x5:Option D),∃o,eL ⟨(eb n).map fun i:Nat=>D.int (i:Int),.none⟩ (gN 4) (du (bP f)) (post.map fun i:Nat=>D.int (i:Int)) [ar (ah n E),ar (ah n' E'),ar (tupI r),ar (.int n),x4,x5]=aC o/\(match (km n E E' k ((post.filter fun p:Nat=>mI E E' r p).map fun p:Nat=>r++[(p:Int)])).head? with|some z=>o= .ret (tupI z)|none=>∃ ρ,o= .nx ρ):=fun post=>by
    induction post with
    |nil=>exact fun x4 x5=>⟨_,gO,by rw[List.filter_nil,NR,zV];exact⟨_,rfl⟩⟩
    | cons p post ih=>
     intro x4 x5;have U:bV (aM (aw df (aB (mV 0) (aB (mV 1) (aB (mV 2) (aB (mV 4) ak)))))) [ar (ah n E),ar (ah n' E'),ar (tupI r),ar (.int n),ar (.int p),x5]=aC (mI E E' r p):=by
      refine ig (iZ ?_);show(aB _ _ _>>=df)=_;rw[show aB (mV 0) (aB (mV 1) (aB (mV 2) (aB (mV 4) ak))) [ar (ah n E),ar (ah n' E'),ar (tupI r),ar (.int n),ar (.int p),x5]=aC [ah n E,ah n' E',tupI r,.int p]from rfl,au];exact DL (by omega)
     by_cases hp:mI E E' r p=b_
     ·have Y:aM (aw (bP f) (ae (mV 0) (ae (mV 1) (ae (aM (aW bI (mV 2) (eT (ae (mV 4) ak)))) ak)))) [ar (ah n E),ar (ah n' E'),ar (tupI r),ar (.int n),ar (.int p),x5]=aC (fX (km n E E' k [r++[(p:Int)]]).head?):=by
       refine iZ ((kf (x:=ah n E) (y:=ah n' E') rfl rfl (zW rfl rfl (by omega))).trans ((zX f (r++[(p:Int)]) (by rw[Mu];show r.length+1<=n;omega) hn (by rw[Mu];show n+1<=f+(r.length+1);omega)).trans ?_))
       rw[Mu,show n - (r.length+[(p:Int)].length)=k by show n - (r.length+1)=k;omega]
      have S:((p::post).filter fun p:Nat=>mI E E' r p).map (fun p:Nat=>r++[(p:Int)])=[r++[(p:Int)]]++(post.filter fun p:Nat=>mI E E' r p).map fun p:Nat=>r++[(p:Int)]:=by
       rw[NX (p:=fun p:Nat=>mI E E' r p) hp,MU];rfl
      rw[S,zU];cases hz:(km n E E' k [r++[(p:Int)]]).head? with
      | some z=>
       refine⟨.ret (tupI z),zT rfl ((bb U).trans ((if_pos hp).trans ((aV (gF Y)).trans ?_))),?_⟩
       ·rw[hz];exact(bb (bM (x:=tupI z) (y:=.non) (b:=b_) rfl rfl rfl)).trans (if_pos rfl)
       ·cases hq:km n E E' k [r++[(p:Int)]]with
        |nil=>rw[hq]at hz;cases hz
        |cons a l=>rw[hq]at hz;cases hz;rfl
      | none=>
       obtain⟨o,X,Z⟩:=ih (ar (.int p)) (ar .non);refine⟨o,?_,?_⟩
       ·refine(vi rfl ((bb U).trans ((if_pos hp).trans ((aV (gF Y)).trans ?_)))).trans X;rw[hz];exact(bb (bM (x:=.non) (y:=.non) (b:=dV) rfl rfl rfl)).trans (if_neg (by decide))
       ·cases hq:km n E E' k [r++[(p:Int)]]with
        |nil=>exact Z
        |cons a l=>rw[hq]at hz;cases hz
     ·obtain⟨o,X,Z⟩:=ih (ar (.int p)) x5;rw[NY (p:=fun p:Nat=>mI E E' r p) hp];exact⟨o,(vi rfl ((bb U).trans ((if_neg hp).trans rfl))).trans X,Z⟩
   obtain⟨o,X,Z⟩:=key (eb n) none none;have W:km n E E' (n - r.length) [r]=km n E E' k (((eb n).filter fun p:Nat=>mI E E' r p).map fun p:Nat=>r++[(p:Int)]):=by
    rw[R];show km n E E' k (ext n E E' r++[])=_;rw[M3];rfl
   rw[W];have hm:∀{o':Out},(eL ⟨(eb n).map fun i:Nat=>D.int (i:Int),.none⟩ (gN 4) (du (bP f)) ((eb n).map fun i:Nat=>D.int (i:Int)) [ar (ah n E),ar (ah n' E'),ar (tupI r),ar (.int n),none,none]>>=fun o=>AB o (bz (mK .non)))=aC o'->dI (bP f) [ar (ah n E),ar (ah n' E'),ar (tupI r),none,none,none]=aC o':=fun{o'} h=>by
    unfold dI;refine(aV (gF (x:=.int n) rfl)).trans ((aV ((bb T).trans (if_neg (by rw[Nh];omega)))).trans ?_)
    rw[<-h];show(i7 _ _ _ _>>=_)=_;unfold i7;rw[show ki (mV 3) [ar (ah n E),ar (ah n' E'),ar (tupI r),ar (.int n),none,none]=_ from vh rfl (by omega),au]
   cases hz:(km n E E' k (((eb n).filter fun p:Nat=>mI E E' r p).map fun p:Nat=>r++[(p:Int)])).head? with
   |some z=>
    rw[hz]at Z;subst Z;exact cZ (o:=.ret (tupI z)) (hm (by rw[X];rfl)) rfl
   |none=>
    rw[hz]at Z;obtain⟨ρ,rfl⟩:=Z;exact cZ (o:=.ret .non) (hm (by rw[X];rfl)) rfl
end
theorem Fw{c:M D}{S:aF}{us:List D}(h:c S=ar (.ok (.lst S.length),S++[us]))(Z:b8 0 us=b_):iG c S=ar (.ok (.fz us),S):=by
 have:=jV (u:=.fz us) h (fun i xs hi e=>.inl (by rw[MN hi]at e;exact e)) (.inl (by rw[Mu];exact Oj _)) (by rw[Mu];exact Og _) (mz (f:=59) (Ms _) cM Z)
 rw[this,QI]
theorem Fx{S:aF}{xs:List D}{d:D}(Z:xs.length<9000000):c8 (.lst S.length) [d] (S++[xs])=ar (.ok .non,S++[xs++[d]]):=by
 show(getL S.length>>=fun xs=>lZ S.length (xs++[d])) _=_;rw[aO (eQ cM),lB (by rw[Mu];show xs.length+1<=lim;unfold lim;omega) (by simp),OF _ _ (Ms _),P1];rfl
theorem Fy{it:Iter}{ds:List D}{d:D}{g:nO}{b:cV}{ρ Z Y:aP}{S S1:aF}(W:jm it S=ar (.ok (),S))(h:g d ρ=aC Z)(X:b Z S=ar (.ok (.nx Y),S1)):eL it g b (d::ds) ρ S=eL it g b ds Y S1:=by
 rw[eL,aO W,h,au,aO X]
theorem DM{it:Iter}{g:nO}{b:cV}{ρ:aP}{S:aF}(Z:jm it S=ar (.ok (),S)):eL it g b [] ρ S=ar (.ok (.nx ρ),S):=by
 rw[eL,aO Z];rfl
theorem LL{us:List D}{l:List Int}(h:us=l.map D.int):il (.fz us) (.fz [])=aC (.bl l.isEmpty):=bp fun S=>by
 subst h;unfold il;have Z:gS S 60 (.fz (l.map D.int))=ar (.list (l.map oD)):=by
  show(mapP (gS S 59) (l.map D.int)).map sb=_;rw[jK];rfl
 have Y:gS S 60 (.fz [])=ar (.list []):=rfl;refine(dY Z Y).mpr ⟨?_,rfl⟩;cases l<;>simp[gg,ly]
section
variable {n n':Nat}{E E':List (List Int)}{T:aF}{v:Option D}
def L3(E E':List (List Int))(r:List Int)(p:Int):D->Bool
 | .int i=> !DK E E' r p i.toNat
 |_=>dV
theorem DN{r:List Int}{p:Int}{x4 x7:Option D}(U:r.length<=100):aM (bC (ki (mV 3)) (gN 0) fR fS [none,ar 0,ar 3,ar 1,ar 5,ar 6]) [ar (ah n E),ar (ah n' E'),v,ar (.int r.length),x4,ar (tupI r),ar (.int p),x7]=aC (.fz (((eb r.length).filter fun i=> !DK E E' r p i).map fun i:Nat=>D.int (i:Int))):=by
 have em:(((eb r.length).map fun i:Nat=>D.int (i:Int)).filter (L3 E E' r p)).map id=((eb r.length).filter fun i=> !DK E E' r p i).map fun i:Nat=>D.int (i:Int):=by
  rw[Qs,O2];rfl
 have Z:=fL (mi:=ki (mV 3)) (g:=gN 0) (t:=fR) (m:=fS) (js:=[none,ar 0,ar 3,ar 1,ar 5,ar 6]) (ρ:=[ar (ah n E),ar (ah n' E'),v,ar (.int r.length),x4,ar (tupI r),ar (.int p),x7]) (its:=(eb r.length).map fun i:Nat=>D.int (i:Int))
  (fun ρ=>∃x,ρ=[x,ar (ah n E),ar (.int r.length),ar (ah n' E'),ar (tupI r),ar (.int p)]) (L3 E E' r p) id (vh rfl (by omega)) (by rw[Mq,MR];unfold lim;omega) ⟨none,rfl⟩
  (fun d hd ρ ⟨x,hρ⟩=>by
   subst hρ;obtain⟨i,hi,rfl⟩:=MJ.mp hd;have hi:=MC.mp hi;refine⟨[ar (.int i),ar (ah n E),ar (.int r.length),ar (ah n' E'),ar (tupI r),ar (.int p)],rfl,⟨_,rfl⟩,?_,fun _=>rfl⟩;have Y:=iZ (e:=aw bU (ae (mV 1) (ae (mV 0) (ae (mV 2) ak)))) (ρ:=[ar (.int i),ar (ah n E),ar (.int r.length),ar (ah n' E'),ar (tupI r),ar (.int p)]) ((kf (x:=ah n E) (y:=.int i) (z:=.int r.length) rfl rfl rfl).trans pM);have X:aW b7 (mV 4) (mV 0) [ar (.int i),ar (ah n E),ar (.int r.length),ar (ah n' E'),ar (tupI r),ar (.int p)]=aC (.int (r.getD i 0)):=by
    refine(b9 (x:=tupI r) (y:=.int i) rfl rfl).trans ((pL (by omega) (by omega)).trans ?_)
    rw[M8]
   have W:=iZ (e:=aw bU (ae (mV 3) (ae (aW b7 (mV 4) (mV 0)) (ae (mV 5) ak)))) ((kf (x:=ah n' E') (z:=.int p) rfl X rfl).trans pM);exact bM Y W Kg) (by
    rw[em];have:=fT (((eb r.length).filter fun i=> !DK E E' r p i).map fun i:Nat=>(i:Int));rw[MZ]at this;exact this)
 rw[em]at Z;exact Z
theorem DO(r:List Int)(p:Int):mI E E' r p=(!iX p r && ((eb r.length).filter fun i=> !DK E E' r p i).isEmpty):=by
 unfold mI;congr 1;rw[OD,Pn,Os,MM];exact forall_congr' fun i=>imp_congr_right fun _=>by simp
theorem Ki{r:List Int}{p:Nat}{acc:List (List Int)}{x7:Option D}(Y:r.length<=100)(X:acc.length<9000000):∃y7,eA [ar (ah n E),ar (ah n' E'),v,ar (.int r.length),ar (.lst T.length),ar (tupI r),ar (.int p),x7] (T++[acc.map tupI])=ar (.ok (.nx [ar (ah n E),ar (ah n' E'),v,ar (.int r.length),ar (.lst T.length),ar (tupI r),ar (.int p),y7]),T++[(acc++if mI E E' r p=b_ then [r++[(p:Int)]]else []).map tupI]):=by
 have h0:c9 qh (mV 6) (mV 5) [ar (ah n E),ar (ah n' E'),v,ar (.int r.length),ar (.lst T.length),ar (tupI r),ar (.int p),x7]=aC (!iX p r):=bM (x:=.int p) (y:=tupI r) rfl rfl DI;have hw:=DN (n:=n) (n':=n') (E:=E) (E':=E') (v:=v) (p:=p) (x4:=ar (.lst T.length)) (x7:=x7) Y;rw[DO];generalize hL:(eb r.length).filter (fun i=> !DK E E' r p i)=L at hw;have Z:c9 il (mV 7) (aM (bh ak)) [ar (ah n E),ar (ah n' E'),v,ar (.int r.length),ar (.lst T.length),ar (tupI r),ar (.int p),ar (.fz (L.map fun i:Nat=>D.int (i:Int)))]=aC L.isEmpty:=by
  refine bM (x:=.fz (L.map fun i:Nat=>D.int (i:Int))) (y:=.fz []) rfl (bF (us:=[]) rfl (ML _)) ?_;rw[LL (l:=L.map fun i:Nat=>(i:Int)) (by rw[MZ];rfl)]
  cases L<;>rfl
 unfold eA;cases hp:iX p r with
 |true=>
  refine⟨x7,(MT ((bb h0).trans (if_neg (by rw[hp];decide))) _).trans ?_⟩
  rw[OJ,NA,if_neg (by decide),M3];rfl
 | false=>
  rw[Pg,NF];refine⟨ar (.fz (L.map fun i:Nat=>D.int (i:Int))),(MT ((bb h0).trans ((if_pos (by rw[hp];rfl)).trans (aV (gF hw)))) _).trans ?_⟩
  cases hl:L.isEmpty with
  |false=>
   refine(MT ((bb Z).trans (if_neg (by rw[hl];decide))) _).trans ?_
   rw[if_neg (by decide),M3];rfl
  |true=>
   refine(MT ((bb Z).trans (if_pos hl)) _).trans (tG (x:=.non) ((tL (x:=.lst T.length) rfl rfl (MT (zW (r:=r) (p:=p) rfl rfl Y) _)).trans ((Fx (by rw[Mq];exact X)).trans ?_)))
   rw[if_pos rfl,NC];rfl
theorem rD{r:List Int}{its:List D}(X:r.length<=100):∀(post:List Nat) (acc:List (List Int)) (x6 x7:Option D),acc.length+post.length<9000000->
  ∃Y Z,eL ⟨its,.none⟩ (gN 6) eA (post.map fun i:Nat=>D.int (i:Int)) [ar (ah n E),ar (ah n' E'),v,ar (.int r.length),ar (.lst T.length),ar (tupI r),x6,x7] (T++[acc.map tupI])=ar (.ok (.nx [ar (ah n E),ar (ah n' E'),v,ar (.int r.length),ar (.lst T.length),ar (tupI r),Y,Z]),T++[(acc++(post.filter fun p:Nat=>mI E E' r p).map fun p:Nat=>r++[(p:Int)]).map tupI])
 |[],acc,x6,x7,_=>⟨x6,x7,by rw[NR,gO,List.filter_nil,NR,M3];rfl⟩
 | p::post,acc,x6,x7,hl=>by
  rw[MW]at hl;obtain⟨R,S⟩:=Ki (n:=n) (n':=n') (E:=E) (E':=E') (T:=T) (v:=v) (r:=r) (p:=p) (acc:=acc) (x7:=x7) X (by omega)
  obtain⟨Y,Z,W⟩:=rD (its:=its) X post (acc++if mI E E' r p=b_ then [r++[(p:Int)]]else []) (ar (.int p)) R (by rw[Mu];split<;>simp<;>omega)
  have U:(acc++if mI E E' r p=b_ then [r++[(p:Int)]]else [])++((post.filter fun p:Nat=>mI E E' r p).map fun p:Nat=>r++[(p:Int)])=acc++((p::post).filter fun p:Nat=>mI E E' r p).map fun p:Nat=>r++[(p:Int)]:=by
   rw[MY];congr 1;by_cases hp:mI E E' r p=b_
   ·rw[if_pos hp,NX (p:=fun p:Nat=>mI E E' r p) hp];rfl
   ·rw[if_neg hp,NY (p:=fun p:Nat=>mI E E' r p) hp];rfl
  rw[<-U];exact⟨Y,Z,(j8 rfl S).trans W⟩
theorem DP(r:List Int):(ext n E E' r).length<=n:=by
 unfold ext;rw[Mq];refine ME (OE _ _) ?_;rw[MR];exact Ms _
theorem tQ{b:Nat}{it:Iter}(O:n<=7)(U:b<=100)(Z:∀xs,jm it (T++[xs])=ar (.ok (),T++[xs])):∀(post acc:List (List Int)) (x5 x6 x7:Option D),(∀r∈post,r.length=b)->acc.length+post.length*7<8000000->
  ∃y5 X Y,eL it (gN 5) hZ (post.map tupI) [ar (ah n E),ar (ah n' E'),v,ar (.int b),ar (.lst T.length),x5,x6,x7] (T++[acc.map tupI])=ar (.ok (.nx [ar (ah n E),ar (ah n' E'),v,ar (.int b),ar (.lst T.length),y5,X,Y]),T++[(acc++post.flatMap (ext n E E')).map tupI])
 |[],acc,x5,x6,x7,_,_=>⟨x5,x6,x7,by rw[NR,DM (Z _),List.flatMap_nil,M3]⟩
 |r::post,acc,x5,x6,x7,hr,hl=>by
  rw[MW,Nat.succ_mul]at hl;have W:=hr r (.head _);subst W;obtain⟨X,Y,e⟩:=rD (n:=n) (n':=n') (E:=E) (E':=E') (T:=T) (v:=v) (r:=r) (its:=(eb n).map fun i:Nat=>D.int (i:Int)) U (eb n) acc x6 x7 (by rw[MR];omega)
  have he:=DP (n:=n) (E:=E) (E':=E') r;obtain⟨P,R,Q,S⟩:=tQ O U Z post (acc++ext n E E' r) (ar (tupI r)) X Y (fun s hs=>hr s (.tail _ hs)) (by rw[Mu];omega)
  refine⟨P,R,Q,?_⟩;rw[Qk, <-MY, <-S];exact Fy (Z _) rfl (n8 (vh (m:=aW b7 (mV 0) (mK (.int 0))) (n:=n) rfl (by omega)) e)
end
theorem Fz{mi:aP->M Iter}{it:Iter}{g:nO}{b:cV}{ρ:aP}{S S1 S2:aF}{o:Out}(hi:mi ρ S=ar (.ok it,S1))(h:eL it g b it.items ρ S1=ar (.ok o,S2)):i7 mi g b ρ S=ar (.ok o,S2):=by
 unfold i7;rw[aO hi];exact h
def KI(T:aF)(v:D)(rs:List (List Int)):Prop:=v= .fz (rs.map tupI)\/∃q,v= .lst q/\T[q]? =ar (rs.map tupI)
theorem KI.seq{T:aF}{v:D}{rs:List (List Int)}{m:TM}{ρ:aP}(h:KI T v rs)(Y:m ρ=aC v)(xs:List D):∃it:Iter,ft m ρ (T++[xs])=ar (.ok it,T++[xs])/\it.items=rs.map tupI/\∀ys,jm it (T++[ys])=ar (.ok (),T++[ys]):=by
 rcases h with rfl|⟨q,rfl,e⟩
 ·refine⟨⟨rs.map tupI,.none⟩,?_,rfl,fun ys=>by rw[cX];rfl⟩
  unfold ft;rw[Y];rfl
 ·have Z:=(Mv.mp e).1;refine⟨⟨rs.map tupI,.some q⟩,?_,rfl,fun ys=>?_⟩
  ·unfold ft;rw[Y];show(getL q>>=_) (T++[xs])=_;rw[aO (eQ (us:=rs.map tupI) (by rw[MN Z];exact e))];rfl
  ·unfold jm;exact if_pos (show(T++[ys])[q]? =ar (rs.map tupI) by rw[MN Z];exact e)
section
variable {n n':Nat}{E E':List (List Int)}
theorem zY{r s:List Int}(h:s∈ext n E E' r):s.length=r.length+1:=by
 unfold ext at h;obtain⟨p,_,rfl⟩:=MJ.mp h;rw[Mu];rfl
theorem zZ(Z:n<=7):∀rs:List (List Int),(rs.flatMap (ext n E E')).length<=rs.length*7
 |[]=>Ms _
 |r::rs=>by
  have:=DP (n:=n) (E:=E) (E':=E') r;have:=zZ Z rs;rw[Qk,Mu,MW];omega
theorem z9{its:List D}(X:n<=7):∀(k b:Nat) (rs:List (List Int)) (T:aF) (v:D) (x3 x4 x5 x6 x7:Option D),b+k<=7->(∀r∈rs,r.length=b)->rs.length<=7 ^ b->KI T v rs->
  ∃(w:D) (Z:aF) (y3 y4 Y U W:Option D),eL ⟨its,.none⟩ (gN 3) ia ((pe b k).map fun i:Nat=>D.int (i:Int)) [ar (ah n E),ar (ah n' E'),ar v,x3,x4,x5,x6,x7] T=ar (.ok (.nx [ar (ah n E),ar (ah n' E'),ar w,y3,y4,Y,U,W]),Z)/\KI Z w (km n E E' k rs)/\(∃G,Z=T++G)/\(km n E E' k rs).length<=7 ^ 7
 |0,b,rs,T,v,x3,x4,x5,x6,x7,hb,hr,hl,hv=>⟨v,T,x3,x4,x5,x6,x7,by rw[List.range'_zero,NR,gO];rfl,hv,⟨[],(M3 _).symm⟩,ME hl (Pr (by decide) (by omega))⟩
 | k+1,b,rs,T,v,x3,x4,x5,x6,x7,hb,hr,hl,hv=>by
  have A:(7:Nat) ^ b<=7 ^ 6:=Pr (by decide) (by omega)
  obtain⟨it,e1,e2,B⟩:=hv.seq (m:=mV 2) (ρ:=[ar (ah n E),ar (ah n' E'),ar v,ar (.int b),ar (.lst T.length),x5,x6,x7]) rfl [];obtain⟨Y,U,W,R⟩:=tQ (n:=n) (n':=n') (E:=E) (E':=E') (T:=T) (v:=ar v) (b:=b) (it:=it) X (by omega) B rs [] x5 x6 x7 hr (by have:(7:Nat) ^ 6=117649:=rfl;simp;omega)
  rw[<-e2,List.nil_append]at R;have hf:=zZ (E:=E) (E':=E') X rs;obtain⟨w,Z,J,L,C,I,N,F,H,⟨G,Q⟩,P⟩:=z9 X k (b+1) (rs.flatMap (ext n E E')) (T++[(rs.flatMap (ext n E E')).map tupI]) (.lst T.length) (ar (.int b)) (ar (.lst T.length)) Y U W (by omega) (fun s hs=>by
   obtain⟨r,O,K⟩:=QC.mp hs;rw[zY K,hr r O]) (by rw[Nat.pow_succ];omega) (.inr ⟨_,rfl,cM⟩)
  refine⟨w,Z,J,L,C,I,N,?_,H,⟨[(rs.flatMap (ext n E E')).map tupI]++G,by rw[Q,MY]⟩,P⟩
  rw[<-F,List.range'_succ,MU];exact j8 rfl ((aS (bN (dv (S:=T) (us:=[]) (ML _)))).trans ((aS (Fz e1 R)).trans (bN rfl)))
theorem FA{a b:List D}(Z:b8 0 a=b_)(Y:b8 0 b=b_):b8 0 (a++b)=true:=by
 induction a with
 |nil=>exact Y
 |cons x a ih=>
  unfold b8 at Z;rw[M5]at Z;rw[L0];unfold b8;rw[Z.1,ih Z.2];rfl
theorem FB{a b:Int}:fV (.int a) (.int b)=aC (.bl (!decide (a=b))):=bp fun S=>by
 unfold fV;refine(dY iA iA).mpr ⟨?_,rfl⟩;simp[gg];rfl
theorem LM{x:D}{xs:List D}:k9 (x::xs) 0=ar x:=by
 unfold k9 As;simp
theorem DQ(J:n<=7):iG (fB [ah n E,ah n' E'])=aC (if n=n' then fX (km n E E' n [[]]).head? else .non):=by
 have P:c9 fV (aW b7 (mV 0) (mK (.int 0))) (aW b7 (mV 1) (mK (.int 0))) [ar (ah n E),ar (ah n' E'),none,none,none,none,none,none]=aC (!decide ((n:Int)=n')):=bM (x:=.int n) (y:=.int n') rfl rfl FB;by_cases h:n=n'
 ·rw[if_pos h];have X:eU 0 (fX (km n E E' n [[]]).head?)=true:=by
   cases (km n E E' n [[]]).head? with
   |none=>rfl
   |some z=>exact vd z
  refine Dk X fun S=>?_;obtain⟨w,T,R,Q,W,U,O,e,hw,⟨G,N⟩,F⟩:=z9 (n':=n') (E:=E) (E':=E') (its:=(eb n).map fun i:Nat=>D.int (i:Int)) J n 0 [[]] S (.fz [.tup []]) none none none none none (by omega) (fun r H=>by rw[NH.mp H];rfl) (Ms _) (.inl rfl)
  rw[<-Pu]at e;have C:(7:Nat) ^ 7=823543:=rfl;have Z:((km n E E' n [[]]).map tupI++[D.non]).length<=lim:=by rw[Mu,Mq];show _+1<=lim;unfold lim;omega
  have L:aM (bh (ae (mK .non) ak)) [ar (ah n E),ar (ah n' E'),ar w,R,Q,W,U,O]=aC (.fz [.non]):=bF (us:=[.non]) rfl (by show 1<=lim;unfold lim;omega)
  have K:aM (aW bI (mV 2) (aM (bh (ae (mK .non) ak)))) [ar (ah n E),ar (ah n' E'),ar w,R,Q,W,U,O] T=ar (.ok (.fz ((km n E E' n [[]]).map tupI++[.non])),T):=by
   refine Fw ((gw (x:=w) (S1:=T) rfl (MT L T)).trans ?_) (FA (eE _) rfl);rcases hw with rfl|⟨q,rfl,eq⟩
   ·exact dv Z
   ·show(getL q>>=fun xs=>bD (xs++[.non])) T=_;rw[aO (eQ eq)];exact dv Z
  have I:b7 (.fz ((km n E E' n [[]]).map tupI++[.non])) (.int 0)=aC (fX (km n E E' n [[]]).head?):=by
   cases km n E E' n [[]]with
   |nil=>rfl
   |cons a l=>
    show(match k9 (tupI a::(l.map tupI++[.non])) 0 with|some d=>(aC d:M D)|none=>M.fail)=_
    rw[LM];rfl
  have Y:¬ (!decide ((n:Int)=n'))=true:=by rw[h];simp
  have hm:iz [ar (ah n E),ar (ah n' E'),none,none,none,none,none,none] S=ar (.ok (.ret (fX (km n E E' n [[]]).head?)),T):=by
   unfold iz;have s1:gZ (c9 fV (aW b7 (mV 0) (mK (.int 0))) (aW b7 (mV 1) (mK (.int 0)))) (bz (mK .non)) cG [ar (ah n E),ar (ah n' E'),none,none,none,none,none,none]=aC (.nx [ar (ah n E),ar (ah n' E'),none,none,none,none,none,none]):=(bb P).trans (if_neg Y);have s2:bA 2 (aM (bh (ae (mK (.tup [])) ak))) [ar (ah n E),ar (ah n' E'),none,none,none,none,none,none]=aC (.nx [ar (ah n E),ar (ah n' E'),ar (.fz [.tup []]),none,none,none,none,none]):=gF (bF (us:=[.tup []]) rfl (by show 1<=lim;unfold lim;omega))
   have s3:=n8 (vh (m:=aW b7 (mV 0) (mK (.int 0))) (ρ:=[ar (ah n E),ar (ah n' E'),ar (.fz [.tup []]),none,none,none,none,none]) (n:=n) rfl (by omega)) e
   have s4:=gr ((gw K (e2:=mK (.int 0)) (y:=.int 0) rfl).trans (MT I T));exact(MT (aV s1) S).trans ((MT (aV s2) S).trans ((aS s3).trans s4))
  exact⟨_,T,fW hm rfl,rfl,G,N⟩
 ·rw[if_neg h];refine Dk rfl fun S=>⟨.non,S,?_,rfl,[],(M3 _).symm⟩;exact MT (cZ (o:=.ret .non) (cz ((bb P).trans ((if_pos (show(!decide ((n:Int)=n'))=b_ by simp;omega)).trans rfl))) rfl) S
end
section
variable {n:Nat}{E E':List (List Int)}{a b i:Int}
theorem kb{p:Int}{t:List Int}:iX p t=b_↔p∈t:=by
 unfold iX;rw[List.any_eq_true];exact⟨fun⟨x,hx,e⟩=>by rw[<-QN e];exact hx,fun h=>⟨p,h,beq_self_eq_true p⟩⟩
theorem pN:tB E a b=tB E b a:=by
 have e1:(if b<a then b else a)=(if a<b then a else b):=by split<;>split<;>omega
 have e2:(if b>a then b else a)=(if a>b then a else b):=by split<;>split<;>omega
 unfold tB;rw[e1,e2]
theorem vj(w:WebOk n E):tB E a a=false:=by
 unfold tB;rw[if_neg (Int.lt_irrefl a)];refine MP fun h=>?_;obtain⟨x,y,e,_,Z,_⟩:=w.el _ h;have Y:=(NP e).1;have X:=(NP (NP e).2).1;omega
theorem Aa(h:a<b):tB E a b=decide ([a,b]∈E):=by
 unfold tB;rw[if_neg (by omega),if_pos h]
def FC(E:List (List Int))(i:Int):Nat:=(E.filter (iX i)).length
theorem wX(w:WebOk n E)(L:0<=i)(hi:i<n):FC E i=((eb n).filter fun j:Nat=>tB E i j).length:=by
 have T:E.Nodup:=w.ris.imp fun{a b} h e=>by subst e;rw[lj]at h;cases h
 have p:((E.filter (iX i)).map fun t=>t.getD 0 0+t.getD 1 0 - i).Perm (((eb n).filter fun j:Nat=>tB E i j).map fun j:Nat=>(j:Int)):=by
  refine(OK ?_ ?_).mpr fun x=>?_
  ·refine Oc.mpr (Ql (fun{s t} hs W hne e=>hne ?_) (OA List.filter_sublist T));obtain⟨s1,s2⟩:=Nr.mp hs;obtain⟨t1,X⟩:=Nr.mp W;obtain⟨x,y,rfl,_,K,_⟩:=w.el s s1;obtain⟨u,v,rfl,_,U,_⟩:=w.el t t1;have R:=kb.mp s2;have Y:=kb.mp X;simp only[f',fb,or_false]at R Y;have P:x+y - i=u+v - i:=e;have:x=u/\y=v:=by omega
   rw[this.1,this.2]
  ·exact Oc.mpr ((OA List.filter_sublist (Pm (n:=n))).imp fun h e=>h (by omega))
  ·constructor
   ·intro h;obtain⟨t,W,rfl⟩:=MJ.mp h;obtain⟨t1,X⟩:=Nr.mp W;obtain⟨u,v,rfl,N,U,O⟩:=w.el t t1;have Y:=kb.mp X;simp only[f',fb,or_false]at Y;show u+v - i∈_;rcases Y with rfl|rfl
    ·refine MJ.mpr ⟨v.toNat,Nr.mpr ⟨MC.mpr (by omega),?_⟩,by omega⟩
     rw[show((v.toNat:Nat):Int)=v by omega,Aa U]
     exact MF t1
    ·refine MJ.mpr ⟨u.toNat,Nr.mpr ⟨MC.mpr (by omega),?_⟩,by omega⟩
     rw[show((u.toNat:Nat):Int)=u by omega,pN,Aa U]
     exact MF t1
   ·intro h;obtain⟨j,S,rfl⟩:=MJ.mp h;obtain⟨Q,Z⟩:=Nr.mp S;rcases Int.lt_trichotomy i j with c|c|c
    ·rw[Aa c]at Z;exact MJ.mpr ⟨[i,(j:Int)],Nr.mpr ⟨Nm Z,kb.mpr (.head _)⟩,by show i+(j:Int) - i=j;omega⟩
    ·rw[<-c,vj w]at Z;cases Z
    ·rw[pN,Aa c]at Z;exact MJ.mpr ⟨[(j:Int),i],Nr.mpr ⟨Nm Z,kb.mpr (.tail _ (.head _))⟩,by show(j:Int)+i - i=j;omega⟩
 have:=p.length_eq;rw[Mq,Mq]at this;exact this
structure Part(n:Nat)(E E':List (List Int))(r:List Int):Prop where
 nd:r.Nodup
 el:∀x∈r,0<=x/\x<n
 ok:∀j,j<r.length->∀i,i<j->tB E (i:Int) (j:Int)=tB E' (r.getD i 0) (r.getD j 0)
theorem Part.nil:Part n E E' []:=⟨.nil,(fun x h=>by cases h),fun j h=>by cases h⟩
theorem oq{r s:List Int}{j:Nat}(h:j<r.length):(r++s).getD j 0=r.getD j 0:=by
 rw[Mw,Mw,MN h]
theorem getD_last{r:List Int}{p:Int}:(r++[p]).getD r.length 0=p:=by
 rw[Mw,N0 (Ms _),P1];rfl
theorem Part.ext{r s:List Int}(h:Part n E E' r)(hs:s∈ext n E E' r):Part n E E' s:=by
 unfold W.ext at hs;obtain⟨p,Y,rfl⟩:=MJ.mp hs;obtain⟨Y,X⟩:=Nr.mp Y;have Y:=MC.mp Y;unfold mI at X;rw[M5,MM]at X;obtain⟨g1,g2⟩:=X;have g1:(p:Int)∉r:=fun z=>by rw[kb.mpr z]at g1;cases g1
 refine⟨List.nodup_append.mpr ⟨h.nd,Qt _ _,fun a T b S e=>?_⟩,fun x Z=>?_,fun j U i hi=>?_⟩
 ·rw[NH.mp S]at e;exact g1 (e ▸ T)
 ·rcases NQ.mp Z with Z|Z
  ·exact h.el x Z
  ·rw[NH.mp Z];exact⟨by omega,by omega⟩
 ·rw[Mu]at U;have U:j<r.length+1:=U;by_cases c:j<r.length
  ·rw[oq c,oq (by omega)]
   exact h.ok j c i hi
  ·have:j=r.length:=by omega
   subst this;rw[getD_last,oq hi];have:=g2 i (MC.mpr hi);unfold DK at this;exact QN this
theorem rE:∀(k b:Nat) (rs:List (List Int)),(∀r∈rs,Part n E E' r/\r.length=b)->∀z∈km n E E' k rs,Part n E E' z/\z.length=b+k
 |0,b,rs,h,z,hz=>h z hz
 | k+1,b,rs,h,z,hz=>by
  have:=rE k (b+1) (rs.flatMap (W.ext n E E')) (fun s hs=>by
   obtain⟨r,Y,Z⟩:=QC.mp hs;obtain⟨p,l⟩:=h r Y;exact⟨p.ext Z,by rw[zY Z,l]⟩) z hz
  rw[show b+(k+1)=b+1+k by omega]
  exact this
abbrev Bz(n:Nat):List Int:=(eb n).map fun j:Nat=>(j:Int)
theorem Part.perm{z:List Int}(h:Part n E E' z)(X:z.length=n):z.Perm (Bz n):=by
 refine(OK h.nd (Oc.mpr ((Pm (n:=n)).imp fun h e=>h (by omega)))).mpr fun x=>⟨fun Z=>?_,fun Z=>?_⟩
 ·obtain⟨h0,W⟩:=h.el x Z;exact MJ.mpr ⟨x.toNat,MC.mpr (by omega),by omega⟩
 ·exact ON fun c=>by
   have:(x::z).Nodup:=Nj.mpr ⟨c,h.nd⟩;have:=DD (m:=Bz n) this fun y Y=>by
    rcases MK.mp Y with rfl|Y
    ·exact Z
    ·obtain⟨h0,W⟩:=h.el y Y;exact MJ.mpr ⟨y.toNat,MC.mpr (by omega),by omega⟩
   rw[MW,X,Mq,MR]at this;omega
theorem getD_map{z:List Int}:z=(eb z.length).map fun j=>z.getD j 0:=by
 refine QD (by simp) fun i Z Y=>?_
 simp[k6,Z]
theorem FD{z:List Int}(w:WebOk n E)(Y:WebOk n E')(h:Part n E E' z)(Z:z.length=n){i:Nat}(hi:i<n):FC E' (z.getD i 0)=FC E (i:Int):=by
 have T:z.getD i 0∈z:=by
  rw[Mw,Mt (by omega)]
  exact Ny _
 obtain⟨z0,W⟩:=h.el _ T;rw[wX Y z0 W,wX w (by omega) (by omega)]
 have e1:((eb n).filter fun j:Nat=>tB E' (z.getD i 0) j).length=((Bz n).filter fun x=>tB E' (z.getD i 0) x).length:=by
  rw[O2,Mq];rfl
 have e2:=((h.perm Z).filter fun x=>tB E' (z.getD i 0) x).length_eq;have U:∀c,(z.filter fun x=>tB E' c x).length=((eb n).filter fun j=>tB E' c (z.getD j 0)).length:=fun c=>by
  conv=>lhs;rw[getD_map (z:=z),Z]
  rw[O2,Mq];rfl
 rw[e1, <-e2,U];congr 1;refine List.filter_congr fun j X=>?_;have X:=MC.mp X;show tB E' (z.getD i 0) (z.getD j 0)=tB E i j;rcases Pb i j with c|c|c
 ·exact(h.ok j (by omega) i c).symm
 ·rw[c,vj w,vj Y]
 ·rw[pN,pN (E:=E)];exact(h.ok i (by omega) j c).symm
def lI(n:Nat)(E:List (List Int)):List Int:=(eb n).map fun i:Nat=>(FC E (i:Int):Int)
theorem rF{l Z:List Int}(h:l.Perm Z):sortI l=sortI Z:=
 OW (le:=(· <=·)) (fun a b _ _ x y=>Int.le_antisymm x y) (fj l) (fj Z) (((sortI_perm l).trans h).trans (sortI_perm Z).symm)
theorem DR{z:List Int}(w:WebOk n E)(W:WebOk n E')(X:z∈km n E E' n [[]]):sortI (lI n E)=sortI (lI n E'):=by
 obtain⟨h,Z⟩:=rE n 0 [[]] (fun r U=>by rw[NH.mp U];exact⟨.nil,rfl⟩) z X
 rw[Nat.zero_add]at Z;refine rF ?_;have e:lI n E=z.map fun x=>(FC E' x:Int):=by
  conv=>rhs;rw[getD_map (z:=z),Z]
  rw[MZ];unfold lI;refine OT fun i hi=>?_;show(FC E (i:Int):Int)=FC E' (z.getD i 0);rw[FD w W h Z (MC.mp hi)]
 have Y:lI n E'=(Bz n).map fun x=>(FC E' x:Int):=by
  unfold lI;rw[MZ];rfl
 rw[e,Y];exact(h.perm Z).map _
end
def great(a:Nat):D:=.exc "TooGreat" [.int a,.int 7]
section
variable {n n':Nat}{E E':List (List Int)}{d e:D}
theorem lE(Z:n<=14)(w:WebOk n E):b0 [ah n E]=aC .non:=by
 rw[Dx Ip (Fq w),if_pos (Fo (by omega) (by omega) w)]
theorem wY(g:Good d)(Z:i9 d=dV):b0 [d]=M.raise (.exc "NoWeb" []):=by
 rw[Dx g.nr (fun m Y z=>ME (g.few m Y z) (by decide)),if_neg (by rw[Z];decide)]
theorem wZ(Y:n<=14)(w:WebOk n E):cB [ah n E,.int 7]=if 7<n then M.raise (great n)else aC .non:=by
 have Z:c9 yN (aW b7 (mV 0) (mK (.int 0))) (mV 1) [ar (ah n E),ar (.int 7)]=aC (decide (7<(n:Int))):=bM (x:=.int n) (y:=.int 7) rfl rfl rfl;by_cases h:7<n
 ·rw[if_pos h];exact fZ ((aV (ke (iZ ((e9 rfl).trans (lE Y w))))).trans ((bb Z).trans ((if_pos (MF (by omega))).trans rfl)))
 ·rw[if_neg h];exact iW ((aV (ke (iZ ((e9 rfl).trans (lE Y w))))).trans ((bb Z).trans (if_neg (by rw[Nh];omega)))) rfl
theorem mapped(T:n<=14)(w:WebOk n E)(Y:n'<=14)(U:WebOk n' E'):bq [ah n E,ah n' E']=if 7<n then M.raise (great n)else if 7<n' then M.raise (great n')else aC .non:=by
 have W:∀{m:cV},aI (nj (aM (aw b0 (ae (mV 0) ak)))) (aI (nj (aM (aw b0 (ae (mV 1) ak)))) m) [ar (ah n E),ar (ah n' E')]=m [ar (ah n E),ar (ah n' E')]:=fun{m}=>(aV (ke (iZ ((e9 rfl).trans (lE T w))))).trans (aV (ke (iZ ((e9 rfl).trans (lE Y U)))));have Z:=wZ T w;have X:=wZ Y U;by_cases h:7<n
 ·rw[if_pos h]at Z⊢;exact fZ (W.trans (iV (jI (Eb ((call2 rfl rfl).trans Z)))))
 ·rw[if_neg h]at Z⊢;by_cases h':7<n'
  ·rw[if_pos h']at X⊢;exact fZ (W.trans ((aV (ke (iZ ((call2 rfl rfl).trans Z)))).trans (jI (Eb ((call2 rfl rfl).trans X)))))
  ·rw[if_neg h']at X⊢;exact iW (W.trans ((aV (ke (iZ ((call2 rfl rfl).trans Z)))).trans (ke (iZ ((call2 rfl rfl).trans X))))) rfl
theorem FE(g:Good d)(Z:i9 d=dV):bq [d,e]=M.raise (.exc "NoWeb" []):=fZ (iV (jI (Eb ((e9 rfl).trans (wY g Z)))))
theorem FF(Y:n<=14)(w:WebOk n E)(g:Good d)(Z:i9 d=dV):bq [ah n E,d]=M.raise (.exc "NoWeb" []):=fZ ((aV (ke (iZ ((e9 rfl).trans (lE Y w))))).trans (iV (jI (Eb ((e9 rfl).trans (wY g Z))))))
theorem nI{x y:D}(h:bq [d,e]=M.raise x):eZ [d,e]=M.raise x/\dm [d,e,y]=M.raise x:=
 ⟨fZ (iV (jI (Eb ((call2 rfl rfl).trans h)))),fZ (iV (jI (Eb ((call2 rfl rfl).trans h))))⟩
def qI(i:Int):D->Bool
 | .tup ds=>match intsOf ds with
  |some ns=>iX i ns
  |none=>dV
 |_=>dV
theorem DS{i:Int}{t:List Int}:qI i (tupI t)=iX i t:=by
 show(match intsOf (t.map D.int)with|some ns=>iX i ns|none=>dV)=_
 rw[fe]
def L4(E:List (List Int)):D->D
 | .int i=>.int (FC E i)
 |d=>d
theorem Gn(Y:n<=14)(w:WebOk n E):eI [ah n E]=aC (.fz ((lI n E).map D.int)):=by
 have hf:=w.few;have em:(((eb n).map fun i:Nat=>D.int (i:Int)).filter fun _=>b_).map (L4 E)=(lI n E).map D.int:=by
  unfold lI;rw[gq,MZ,MZ];rfl
 have Z:=rj (mi:=ki (mV 1)) (g:=gN 0) (t:=j5) (m:=j6) (js:=[none,ar 2]) (ρ:=[ar (ah n E),ar (.int n),ar (.tup (E.map tupI))]) (its:=(eb n).map fun i:Nat=>D.int (i:Int)) (fun ρ=>∃x,ρ=[x,ar (.tup (E.map tupI))]) (fun _=>b_) (L4 E) (vh rfl (by omega)) (by rw[Mq,MR];unfold lim;omega) ⟨none,rfl⟩
  (fun d hd ρ ⟨x,hρ⟩=>by
   subst hρ;obtain⟨i,_,rfl⟩:=MJ.mp hd;refine⟨[ar (.int i),ar (.tup (E.map tupI))],rfl,⟨_,rfl⟩,rfl,fun _=>?_⟩;have e2:((E.map tupI).filter (qI i)).map id=(E.filter (iX i)).map tupI:=by
    rw[Qs,O2];congr 1;exact List.filter_congr fun t _=>DS
   have h:=fL (mi:=ft (mV 1)) (g:=gN 0) (t:=jZ) (m:=j4) (js:=[none,ar 0]) (ρ:=[ar (.int i),ar (.tup (E.map tupI))]) (its:=E.map tupI) (fun ρ=>∃x,ρ=[x,ar (.int i)]) (qI i) id rfl (by rw[Mq];unfold lim;omega) ⟨none,rfl⟩
    (fun d hd ρ ⟨x,hρ⟩=>by
     subst hρ;obtain⟨t,_,rfl⟩:=MJ.mp hd;refine⟨[ar (tupI t),ar (.int i)],rfl,⟨_,rfl⟩,?_,fun _=>rfl⟩;rw[DS];exact bM (x:=.int i) (y:=tupI t) rfl rfl Gj) (by rw[e2];exact eE _)
   rw[e2]at h;refine(eB h).trans ?_;show aC (D.int ((E.filter (iX i)).map tupI).length)=_;rw[Mq];rfl) (by rw[em];exact fT _)
 rw[em]at Z;exact iW (o:=.ret (.fz ((lI n E).map D.int))) ((aV (ke (iZ ((e9 rfl).trans (lE Y w))))).trans ((aV (ρ':=[ar (ah n E),ar (.int n),ar (.tup (E.map tupI))]) rfl).trans (eN Z))) rfl
theorem tR{l:List Int}{e:TM}{ρ:aP}(h:e ρ=aC (.fz (l.map D.int)))(Z:l.length<64):aM (cN bZ e) ρ=aC (.fz ((sortI l).map D.int)):=by
 unfold aM;rw[eB h];have:bZ [.fz (l.map D.int)]=bD ((sortI l).map D.int):=by
  show(match intsOf (l.map D.int)with|some ns=>if ns.length<64 then bD ((sortI ns).map D.int)else M.fail|none=>_)=_
  rw[fe];exact if_pos Z
 rw[this];exact bF (fT _) (by rw[Mq,(sortI_perm l).length_eq];unfold lim;omega)
theorem Ab{a b:List Int}:fV (.fz (a.map D.int)) (.fz (b.map D.int))=aC (.bl (!decide (a=b))):=bp fun S=>by
 have Z:∀l:List Int,gS S 60 (.fz (l.map D.int))=ar (.list (l.map oD)):=fun l=>by
  show(mapP (gS S 59) (l.map D.int)).map sb=_;rw[jK];rfl
 unfold fV;refine(dY (Z a) (Z b)).mpr ⟨?_,rfl⟩;have:gg (.list (a.map oD)) (.list (b.map oD))=decide (a=b):=by
  unfold gg;exact nH a b
 rw[this]
theorem w5(R:n<=7)(w:WebOk n E)(W:n'<=7)(Y:WebOk n' E'):eZ [ah n E,ah n' E']=aC (if n=n' then fX (km n E E' n [[]]).head? else .non):=by
 have hm:bq [ah n E,ah n' E']=aC .non:=by rw[mapped (by omega) w (by omega) Y,if_neg (by omega),if_neg (by omega)]
 have dl:∀(m:Nat) F,(lI m F).length=m:=fun m F=>by unfold lI;rw[Mq,MR]
 have S:=tR (iZ (e:=aw eI (ae (mV 0) ak)) (ρ:=[ar (ah n E),ar (ah n' E')]) ((e9 rfl).trans (Gn (by omega) w))) (by rw[dl];omega)
 have T:=tR (iZ (e:=aw eI (ae (mV 1) ak)) (ρ:=[ar (ah n E),ar (ah n' E')]) ((e9 rfl).trans (Gn (by omega) Y))) (by rw[dl];omega)
 have X:c9 fV (aM (cN bZ (aM (aw eI (ae (mV 0) ak))))) (aM (cN bZ (aM (aw eI (ae (mV 1) ak))))) [ar (ah n E),ar (ah n' E')]=aC (!decide (sortI (lI n E)=sortI (lI n' E'))):=bM S T Ab;by_cases h:sortI (lI n E)=sortI (lI n' E')
 ·have Z:n=n':=by
   have:=OG GB h;rw[(sortI_perm _).length_eq,(sortI_perm _).length_eq,dl,dl]at this;exact this
  subst Z;rw[if_pos rfl];have hf:dJ [ah n E,ah n E',tupI []]=aC (fX (km n E E' n [[]]).head?):=zX 8 [] (ML _) R (by show n+1<=8;omega)
  exact iW (o:=.ret (fX (km n E E' n [[]]).head?)) ((aV (ke (iZ ((call2 rfl rfl).trans hm)))).trans ((aV ((bb X).trans (if_neg (by rw[h];simp)))).trans (eN (iZ ((kf (x:=ah n E) (y:=ah n E') (z:=tupI []) rfl rfl rfl).trans hf))))) rfl
 ·have U:(if n=n' then fX (km n E E' n [[]]).head? else D.non)= .non:=by
   by_cases Z:n=n'
   ·subst Z;rw[if_pos rfl];cases hq:km n E E' n [[]]with
    |nil=>rfl
    |cons z l=>exact(h (DR w Y (z:=z) (by rw[hq];exact .head _))).elim
   ·rw[if_neg Z]
  rw[U];exact iW (o:=.ret .non) ((aV (ke (iZ ((call2 rfl rfl).trans hm)))).trans (cz ((bb X).trans ((if_pos (by simp[h])).trans rfl)))) rfl
end
def BA:D->Bool
 | .int _=>b_
 | .bl _=>b_
 | .non=>b_
 | .str s=>PyData.strOk s
 | .tup ds=>(intsOf ds).isSome
 |_=>dV
def isTup:D->Bool
 | .tup _=>b_
 |_=>dV
inductive Th:D->Prop
 |tup {ds:List D}:ds.length<=50->(∀x∈ds,BA x=b_)->Th (.tup ds)
 |oth {d:D}:vU d=b_->isTup d=dV->Th d
theorem Gp{x:D}(h:BA x=b_):vU x=true:=by cases x<;>first|rfl|cases h
theorem DT{d:D}(h:vU d=b_):AE (fun t=>jo t "tuple") d=aC (.bl (isTup d)):=by cases d<;>first|rfl|cases h
theorem lV{p q:jF}{b c:Bool}{ρ:aP}(Z:p ρ=aC b)(Y:b=dV->q ρ=aC c):tj p q ρ=aC (b||c):=by
 show(p ρ>>=_)=_;rw[Z];cases b with
 |true=>rfl
 |false=>exact Y rfl
theorem not_eq{t:jF}{b:Bool}{ρ:aP}(h:t ρ=aC b):dM t ρ=aC (!b):=by
 show(t ρ>>=_)=_;rw[h];rfl
def IV(E E':List (List Int))(z:List Int):Bool:=(eb z.length).all fun j=>mI E E' (z.take j) (z.getD j 0)
def FH(n n':Nat)(E E':List (List Int)):D->Bool
 | .tup ds=>decide (n'=n) && (decide (ds.length=n) && (ds.all (cQ n) && match intsOf ds with
  |some z=>IV E E' z
  |none=>dV))
 |_=>dV
theorem jv{n:Nat}:∀{ds:List D},ds.all (cQ n)=b_->∃z:List Int,ds=z.map D.int/\∀x∈z,0<=x/\x<n
 |[],_=>⟨[],rfl,fun x h=>by cases h⟩
 |d::ds,h=>by
  rw[Qm,M5]at h;obtain⟨i,rfl,h0,X⟩:=jJ h.1;obtain⟨z,rfl,Y⟩:=jv h.2;exact⟨i::z,rfl,fun x Z=>by rcases MK.mp Z with rfl|Z;exact⟨h0,X⟩;exact Y x Z⟩
theorem ot(z:List Int):lQ (z.map D.int)=(eb z.length).map fun i:Nat=>.tup [.int (i:Int),.int (z.getD i 0)]:=by
 unfold lQ;refine QD (by simp) fun i Y Z=>?_
 have hi:i<z.length:=by simpa using Z
 simp[k6,hi]
def L5(E E':List (List Int))(z:List Int):D->D
 | .tup [.int i,.int x]=>.bl (mI E E' (z.take i.toNat) x)
 |d=>d
section
variable {n n':Nat}{E E':List (List Int)}
theorem FI{z:List Int}{i:Nat}{ρ:aP}{e1 e2:TM}(Z:e1 ρ=aC (tupI z))(Y:e2 ρ=aC (.int i))(X:z.length<=100):aM (mH e1 oN (oS e2)) ρ=aC (tupI (z.take i)):=by
 refine iZ ?_;show(e1 ρ>>=fun x=>oN ρ>>=fun lo=>oS e2 ρ>>=fun hi=>qk x lo hi)=_;rw[Z,au,show oN ρ=aC none from rfl,au,show oS e2 ρ=aC (ar (i:Int)) by unfold oS;rw[Y];rfl,au]
 show bK (S3.cutD (z.map D.int) none (ar (i:Int)))=_;rw[Kc, <-QP];unfold bK;rw[if_pos (by rw[Mq,NI];unfold lim;omega)];rfl
theorem FJ{d:D}(J:n<=7)(w:WebOk n E)(K:n'<=7)(L:WebOk n' E')(h:Th d):dm [ah n E,ah n' E',d]=aC (.bl (FH n n' E E' d)):=by
 have hm:bq [ah n E,ah n' E']=aC .non:=by rw[mapped (by omega) w (by omega) L,if_neg (by omega),if_neg (by omega)]
 have S:vU d=true:=by cases h with|tup=>rfl|oth h _=>exact h
 have T:c9 fV (aW b7 (mV 1) (mK (.int 0))) (mV 3) [ar (ah n E),ar (ah n' E'),ar d,ar (.int n)]=aC (!decide ((n':Int)=n)):=bM (x:=.int n') (y:=.int n) rfl rfl FB;have R:dM (bV (fH (mV 2) "tuple")) [ar (ah n E),ar (ah n' E'),ar d,ar (.int n)]=aC (!isTup d):=not_eq (ig (DT S));have st:∀{m:cV} {o:Out},m [ar (ah n E),ar (ah n' E'),ar d,ar (.int n)]=aC o->aI (nj (aM (aw bq (ae (mV 0) (ae (mV 1) ak))))) (aI (bA 3 (aW b7 (mV 0) (mK (.int 0)))) m) [ar (ah n E),ar (ah n' E'),ar d,none]=aC o:=fun h=>((aV (ke (iZ ((call2 rfl rfl).trans hm)))).trans (aV (gF (x:=.int n) rfl))).trans h;by_cases hnn:n'=n
 ·subst hnn;cases h with
  |oth _ ht=>
   have Y:=lV (q:=tj (dM (bV (fH (mV 2) "tuple"))) (c9 fV (cN dW (mV 2)) (mV 3))) (c:=b_) T fun _=>(lV (c:=b_) R fun z=>by rw[ht]at z;cases z).trans (by rw[ht];rfl)
   refine iW (o:=.ret (.bl dV)) (st (cz ((bb Y).trans ((if_pos (PZ _)).trans rfl)))) ?_;show aC (D.bl dV)=aC (D.bl _);congr 2;cases d<;>first|rfl|cases ht
  | tup hl hel=>
   rename_i ds
   have hlen:cN dW (mV 2) [ar (ah n' E),ar (ah n' E'),ar (.tup ds),ar (.int n')]=aC (.int ds.length):=eB (x:=.tup ds) rfl;have Y:=lV (q:=tj (dM (bV (fH (mV 2) "tuple"))) (c9 fV (cN dW (mV 2)) (mV 3))) (c:= !decide ((ds.length:Int)=n')) T fun _=>lV R fun _=>bM hlen (y:=.int n') rfl FB;have P:(!decide ((n':Int)=n')|| !decide ((ds.length:Int)=n'))= !decide (ds.length=n'):=by
    rw[MF rfl,OJ,Bool.false_or];congr 1;exact decide_eq_decide.mpr (by omega)
   rw[P]at Y;have N:FH n' n' E E' (.tup ds)=(decide (ds.length=n') && (ds.all (cQ n') && match intsOf ds with|some z=>IV E E' z|none=>dV)):=by
    show(decide (n'=n') && _)=_;rw[MF rfl,NF]
   rw[N];by_cases hln:ds.length=n'
   ·rw [MF hln,OJ]at Y;rw[MF hln,NF];have em:(ds.filter fun _=>b_).map (fun d=>D.bl (cQ n' d))=(ds.map (cQ n')).map D.bl:=by rw[gq,MZ];rfl
    have Q:=rj (mi:=ft (mV 2)) (g:=gN 0) (t:=gm) (m:=gn) (js:=[none,ar 3]) (ρ:=[ar (ah n' E),ar (ah n' E'),ar (.tup ds),ar (.int n')]) (its:=ds) (fun ρ=>∃x,ρ=[x,ar (.int n')]) (fun _=>b_) (fun d=>D.bl (cQ n' d)) rfl (by unfold lim;omega) ⟨none,rfl⟩
     (fun d hd ρ ⟨x,hρ⟩=>by
      subst hρ;exact⟨[ar d,ar (.int n')],rfl,⟨_,rfl⟩,rfl,fun _=>iZ ((call2 (x:=.int n') (y:=d) rfl rfl).trans (uX (Gp (hel d hd))))⟩) (by rw[em];exact n6 _)
    rw[em]at Q;have Z:dM (bV (cN oY (aM (Ia (bC (ft (mV 2)) (gN 0) gm gn [none,ar 3]))))) [ar (ah n' E),ar (ah n' E'),ar (.tup ds),ar (.int n')]=aC (!ds.all (cQ n')):=not_eq (ig ((eB Q).trans (oa.trans (by rw[Ox];rfl))))
    have s1:=(bb (m:=bz (mK (.bl dV))) (n:=cG) Y).trans (if_neg (by decide))
    by_cases X:ds.all (cQ n')=b_
    ·rw[X,OJ]at Z;rw[X,NF];obtain⟨z,rfl,H⟩:=jv X;rw[fe];rw[Mq]at hl hln;have U:((lQ (z.map D.int)).filter fun _=>b_).map (L5 E E' z)=((eb z.length).map fun j=>mI E E' (z.take j) (z.getD j 0)).map D.bl:=by
      rw[ot,gq,MZ,MZ];rfl
     have W:=rj (mi:=Gc (mV 2)) (g:=gR 2 (bS (gN 0) (bS (gN 1) ie))) (t:=iT) (m:=iU) (js:=[none,none,ar 0,ar 1,ar 2]) (ρ:=[ar (ah n' E),ar (ah n' E'),ar (tupI z),ar (.int n')]) (its:=lQ (z.map D.int)) (fun ρ=>∃x y,ρ=[x,y,ar (ah n' E),ar (ah n' E'),ar (tupI z)]) (fun _=>b_) (L5 E E' z) rfl (by rw[ot,Mq,MR];unfold lim;omega) ⟨none,none,rfl⟩
      (fun d hd ρ ⟨x,y,hρ⟩=>by
       subst hρ;rw[ot]at hd;obtain⟨i,hi,rfl⟩:=MJ.mp hd;have hi:=MC.mp hi;refine⟨[ar (.int i),ar (.int (z.getD i 0)),ar (ah n' E),ar (ah n' E'),ar (tupI z)],rfl,⟨_,_,rfl⟩,rfl,fun _=>iZ ?_⟩;have O:aB (mV 2) (aB (mV 3) (aB (aM (mH (mV 4) oN (oS (mV 0)))) (aB (mV 1) ak))) [ar (.int i),ar (.int (z.getD i 0)),ar (ah n' E),ar (ah n' E'),ar (tupI z)]=aC [ah n' E,ah n' E',tupI (z.take i),.int (z.getD i 0)]:=aQ (x:=ah n' E) rfl (aQ (x:=ah n' E') rfl (aQ (FI (z:=z) (i:=i) rfl rfl (by omega)) (aQ (x:=.int (z.getD i 0)) rfl (es:=ak) rfl)))
       show(aB _ _ _>>=df)=_;rw[O,au];exact DL (by rw[NI];omega)) (by rw[U];exact n6 _)
     rw[U]at W;refine iW (o:=.ret (.bl (IV E E' z))) (st ((aV s1).trans ((aV ((bb Z).trans (if_neg (by decide)))).trans (eN ((eB W).trans (oa.trans ?_)))))) rfl
     rw[Ox];rfl
    ·have X:ds.all (cQ n')=false:=by simpa using X
     rw[X,Pg]at Z;rw[X,NA];exact iW (o:=.ret (.bl dV)) (st ((aV s1).trans (cz ((bb Z).trans ((if_pos rfl).trans rfl))))) rfl
   ·rw[MP hln,Pg]at Y;rw[MP hln,NA];exact iW (o:=.ret (.bl dV)) (st (cz ((bb Y).trans ((if_pos rfl).trans rfl)))) rfl
 ·have I:((n':Int)=n)=False:=eq_false (by omega)
  have Y:=lV (q:=tj (dM (bV (fH (mV 2) "tuple"))) (c9 fV (cN dW (mV 2)) (mV 3))) (c:=b_) T fun z=>by
   rw[MP (by omega)]at z;cases z
  refine iW (o:=.ret (.bl dV)) (st (cz ((bb Y).trans ((if_pos (PZ _)).trans rfl)))) ?_;show aC (D.bl dV)=aC (D.bl _);congr 2;cases d<;>first|rfl|(show dV=(decide (n'=n) && _);rw[MP hnn];rfl)
end
theorem DU{d:D}(h:Dp d):gi [d]=aC (.bl (ib d)):=uV h
theorem mC:∀{ds:List D} {ns:List Int},intsOf ds=ar ns->ds=ns.map D.int
 |[],ns,e=>by cases e;rfl
 | d::ds,ns,e=>by
  cases d with
  | int i=>
   cases hq:intsOf ds with
   |none=>simp[intsOf,hq]at e
   |some ms=>
    simp[intsOf,hq]at e;subst e;rw[mC hq];rfl
  |_=>simp[intsOf]at e
theorem LN{S:aF}{n:Nat}{x:D}(h:BA x=b_):∃p,gS S (n+2) x=ar p:=by
 cases x with
 |int i=>exact⟨_,rfl⟩
 |bl b=>exact⟨_,rfl⟩
 |non=>exact⟨_,rfl⟩
 |str s=>exact⟨_,if_pos h⟩
 |tup ds=>
  have h:(intsOf ds).isSome=true:=h;obtain⟨ns,e⟩:=Nk.mp h;rw[mC e];exact⟨_,iB ns⟩
 |_=>cases h
theorem Gq{S:aF}{n:Nat}:∀{us:List D},(∀x∈us,BA x=b_)->∃Z,mapP (gS S (n+2)) us=ar Z/\Z.length=us.length
 |[],_=>⟨[],rfl,rfl⟩
 |x::us,h=>by
  obtain⟨p,e1⟩:=LN (S:=S) (n:=n) (h x (.head _));obtain⟨Z,e2,l⟩:=Gq (S:=S) (n:=n) fun y Y=>h y (.tail _ Y);exact⟨p::Z,by simp[mapP,e1,e2],by rw[MW,MW,l]⟩
theorem Ac{us:List D}(h:∀x∈us,BA x=b_):fV (.fz us) (.fz [])=aC (.bl (!us.isEmpty)):=bp fun S=>by
 obtain⟨Z,e,l⟩:=Gq (S:=S) (n:=57) h;have Y:gS S 60 (.fz us)=ar (.list Z):=by
  show(mapP (gS S 59) us).map sb=_;rw[e];rfl
 unfold fV;refine(dY Y (show gS S 60 (.fz [])=ar (.list [])from rfl)).mpr ⟨?_,rfl⟩;cases Z with
 |nil=>rw[Qp.mp l.symm];simp[gg,ly]
 |cons p Z=>
  cases us with
  |nil=>cases l
  |cons u us=>simp[gg,ly]
theorem DV:∀{us:List D},(∀x∈us,BA x=b_)->b8 0 us=b_
 |[],_=>rfl
 | x::us,h=>by
  have Y:eU 0 x=true:=by
   have Z:=h x (.head _);cases x with
   |tup ds=>
    have Z:(intsOf ds).isSome=true:=Z;obtain⟨ns,e⟩:=Nk.mp Z;rw[mC e];exact vd ns
   |int i=>rfl
   |bl b=>rfl
   |non=>rfl
   |str s=>rfl
   |_=>cases Z
  unfold b8;rw[Y,DV fun y X=>h y (.tail _ X)];rfl
theorem rG:∀{ds:List D},(ds.filter fun d=> !ib d).isEmpty=b_->∃z:List Int,ds=z.map D.int
 |[],_=>⟨[],rfl⟩
 | d::ds,h=>by
  cases hw:ib d with
  |false=>rw[NX (by rw[hw];rfl)]at h;cases h
  |true=>
   rw[NY (by rw[hw];decide)]at h
   obtain⟨z,rfl⟩:=rG h;cases d<;>first|(cases hw)|skip
   exact⟨_::z,rfl⟩
section
variable {n n':Nat}{E E':List (List Int)}
def Bl(E E':List (List Int))(z:List Int)(b:Nat):List Nat:=(eb b).filter fun a:Nat=>tB E (a:Int) (b:Int) !=tB E' (z.getD a 0) (z.getD b 0)
def IE(n:Nat)(E E':List (List Int))(z:List Int):Bool:=decide (sortI z=Bz n) && (eb n).all fun b=>(Bl E E' z b).isEmpty
theorem yu(n:Nat):sortI (Bz n)=Bz n:=
 OW (le:=(· <=·)) (fun a b _ _ x y=>Int.le_antisymm x y) (fj _) (Oc.mpr (List.pairwise_le_range.imp fun h=>by omega)) (sortI_perm _)
theorem Bm{z:List Int}{i j:Nat}(h:i<j):(z.take j).getD i 0=z.getD i 0:=by
 rw[Mw,Mw,Ou,if_pos h]
theorem DW{z:List Int}(X:∀x∈z,0<=x/\x<n)(h:IV E E' z=b_):Part n E E' z:=by
 have Y:∀j,j<z.length->mI E E' (z.take j) (z.getD j 0)=true:=fun j Z=>MM.mp h j (MC.mpr Z);have hs:∀j,j<=z.length->Part n E E' (z.take j):=fun j=>by
  induction j with
  |zero=>exact fun _=>Part.nil
  | succ j ih=>
   intro Z;have U:=X (z.getD j 0) (by rw[Mw,Mt (by omega)];exact Ny _)
   refine(ih (by omega)).ext ?_
   unfold W.ext;refine MJ.mpr ⟨(z.getD j 0).toNat,Nr.mpr ⟨MC.mpr (by omega),?_⟩,?_⟩
   ·rw[show(((z.getD j 0).toNat:Nat):Int)=z.getD j 0 by omega]
    exact Y j (by omega)
   ·rw[show(((z.getD j 0).toNat:Nat):Int)=z.getD j 0 by omega,List.take_succ,Mw,Mt (by omega)];rfl
 have:=hs z.length (Ms _);rw[QA]at this;exact this
theorem yw{z:List Int}:(decide (z.length=n) && ((z.map D.int).all (cQ n) && IV E E' z))=IE n E E' z:=by
 have Z:(z.map D.int).all (cQ n)=b_↔∀x∈z,0<=x/\x<n:=by
  rw[Ox,MM];refine forall_congr' fun x=>imp_congr_right fun _=>?_;show(decide (0<=x) && decide (x<n))=b_↔_;rw[M5,Nh,Nh]
 unfold IE;rw[OD,M5,M5,M5,Nh,Nh,Z,MM];constructor
 ·rintro⟨X,hr,hg⟩;have P:=DW hr hg;refine⟨(rF (P.perm X)).trans (yu n),fun b U=>?_⟩;have U:=MC.mp U;unfold Bl;rw[Pn,Os];intro a S;rw[P.ok b (by omega) a (MC.mp S)]
  simp
 ·rintro⟨hs,hw⟩;have W:z.Perm (Bz n):=(sortI_perm z).symm.trans (by rw[hs])
  have X:z.length=n:=by rw[W.length_eq,Mq,MR]
  have R:z.Nodup:=W.nodup_iff.mpr (Oc.mpr ((Pm (n:=n)).imp fun h e=>h (by omega)))
  refine⟨X,fun x T=>?_,MM.mpr fun j Y=>?_⟩
  ·obtain⟨j,Y,rfl⟩:=MJ.mp (W.mem_iff.mp T);have:=MC.mp Y;exact⟨by omega,by omega⟩
  ·have Y:=MC.mp Y;unfold mI;rw[M5,MM];have lt:(z.take j).length=j:=by rw[NI];omega
   constructor
   ·have:iX (z.getD j 0) (z.take j)=false:=by
     cases hq:iX (z.getD j 0) (z.take j)with
     |false=>rfl
     |true=>
      obtain⟨i,hi,e⟩:=Pq.mp (kb.mp hq);rw[List.getElem_take]at e;rw[Mw,Mt Y]at e;have:=(Qv R).mp e;omega
    rw[this];rfl
   ·intro i hi;rw[lt]at hi;have hi:=MC.mp hi;have:=hw j (MC.mpr (by omega))
    unfold Bl at this;rw[Pn,Os]at this;have:=this i (MC.mpr hi);unfold DK;rw[lt,Bm hi];simpa using this
end
section
variable {n n':Nat}{E E':List (List Int)}{its:List D}
def L6(E E':List (List Int))(z:List Int)(b:Nat):D->Bool
 | .int a=>tB E a (b:Int) !=tB E' (z.getD a.toNat 0) (z.getD b 0)
 |_=>dV
theorem Kj{z:List Int}{b:Nat}(W:b<z.length)(S:z.length<=100):aM (bC (ki (mV 3)) (gN 0) dG dH [none,ar 0,ar 3,ar 1,ar 2]) [ar (ah n E),ar (ah n' E'),ar (tupI z),ar (.int b)]=aC (.fz (((Bl E E' z b).map fun a:Nat=>(a:Int)).map D.int)):=by
 have em:(((eb b).map fun i:Nat=>D.int (i:Int)).filter (L6 E E' z b)).map id=((Bl E E' z b).map fun a:Nat=>(a:Int)).map D.int:=by
  unfold Bl;rw[Qs,O2,MZ];rfl
 have Z:=fL (mi:=ki (mV 3)) (g:=gN 0) (t:=dG) (m:=dH) (js:=[none,ar 0,ar 3,ar 1,ar 2]) (ρ:=[ar (ah n E),ar (ah n' E'),ar (tupI z),ar (.int b)]) (its:=(eb b).map fun i:Nat=>D.int (i:Int))
  (fun ρ=>∃x,ρ=[x,ar (ah n E),ar (.int b),ar (ah n' E'),ar (tupI z)]) (L6 E E' z b) id (vh rfl (by omega)) (by rw[Mq,MR];unfold lim;omega) ⟨none,rfl⟩
  (fun d hd ρ ⟨x,hρ⟩=>by
   subst hρ;obtain⟨i,hi,rfl⟩:=MJ.mp hd;have hi:=MC.mp hi;refine⟨[ar (.int i),ar (ah n E),ar (.int b),ar (ah n' E'),ar (tupI z)],rfl,⟨_,rfl⟩,?_,fun _=>rfl⟩;have T:=iZ (e:=aw bU (ae (mV 1) (ae (mV 0) (ae (mV 2) ak)))) (ρ:=[ar (.int i),ar (ah n E),ar (.int b),ar (ah n' E'),ar (tupI z)]) ((kf (x:=ah n E) (y:=.int i) (z:=.int b) rfl rfl rfl).trans pM);have Y:∀(v:TM) (c:Nat),c<z.length->v [ar (.int i),ar (ah n E),ar (.int b),ar (ah n' E'),ar (tupI z)]=aC (.int c)->aW b7 (mV 4) v [ar (.int i),ar (ah n E),ar (.int b),ar (ah n' E'),ar (tupI z)]=aC (.int (z.getD c 0)):=fun v c Z U=>by
    refine(b9 (x:=tupI z) rfl U).trans ((pL (by omega) (by omega)).trans ?_)
    rw[M8]
   have X:=iZ (e:=aw bU (ae (mV 3) (ae (aW b7 (mV 4) (mV 0)) (ae (aW b7 (mV 4) (mV 2)) ak)))) ((kf (x:=ah n' E') rfl (Y (mV 0) i (by omega) rfl) (Y (mV 2) b W rfl)).trans pM)
   exact bM T X Kg) (by rw[em];exact fT _)
 rw[em]at Z;exact Z
theorem Ad(l:List Int):∀x∈l.map D.int,BA x=true:=fun x Z=>by
 obtain⟨i,_,rfl⟩:=MJ.mp Z;rfl
theorem DX{z:List Int}(Y:z.length<=100):∀(post:List Nat) (x3:Option D),(∀b∈post,b<z.length)->∃Z,eL ⟨its,.none⟩ (gN 3) fA (post.map fun i:Nat=>D.int (i:Int)) [ar (ah n E),ar (ah n' E'),ar (tupI z),x3]=aC (if (post.all fun b=>(Bl E E' z b).isEmpty)=b_ then .nx [ar (ah n E),ar (ah n' E'),ar (tupI z),Z]else .ret (.bl dV))
 |[],x3,_=>⟨x3,gO⟩
 | b::post,x3,h=>by
  have U:=Kj (n:=n) (n':=n') (E:=E) (E':=E') (h b (.head _)) Y;have X:c9 fV (aM (bC (ki (mV 3)) (gN 0) dG dH [none,ar 0,ar 3,ar 1,ar 2])) (aM (bh ak)) [ar (ah n E),ar (ah n' E'),ar (tupI z),ar (.int b)]=aC (!(Bl E E' z b).isEmpty):=by
   refine bM U (bF (us:=[]) rfl (ML _)) ((Ac (Ad _)).trans ?_);cases Bl E E' z b<;>rfl
  cases hw:(Bl E E' z b).isEmpty with
  |true=>
   obtain⟨Z,W⟩:=DX Y post (ar (.int b)) fun c T=>h c (.tail _ T);refine⟨Z,?_⟩;rw[Qm,hw,NF, <-W];exact vi rfl ((bb X).trans (if_neg (by rw[hw];decide)))
  |false=>
   refine⟨x3,?_⟩;rw[Qm,hw,NA,if_neg (by decide)]
   exact zT rfl ((bb X).trans ((if_pos (by rw[hw];rfl)).trans rfl))
theorem IF{d:D}(G:n<=7)(h:Th d):eF [ah n E,ah n' E',d]=aC (.bl (FH n n' E E' d)):=by
 have R:vU d=true:=by cases h with|tup=>rfl|oth h _=>exact h
 have S:c9 fV (aW b7 (mV 0) (mK (.int 0))) (aW b7 (mV 1) (mK (.int 0))) [ar (ah n E),ar (ah n' E'),ar d,none]=aC (!decide ((n:Int)=n')):=bM (x:=.int n) (y:=.int n') rfl rfl FB;have O:dM (bV (fH (mV 2) "tuple")) [ar (ah n E),ar (ah n' E'),ar d,none]=aC (!isTup d):=not_eq (ig (DT R));by_cases hnn:n'=n
 ·subst hnn;cases h with
  |oth _ ht=>
   have Z:=lV (q:=tj (dM (bV (fH (mV 2) "tuple"))) (c9 fV (aM (bC (ft (mV 2)) (gN 0) cq cu [none])) (aM (bh ak)))) (c:=b_) S fun _=>(lV (c:=b_) O fun z=>by rw[ht]at z;cases z).trans (by rw[ht];rfl)
   refine cZ (o:=.ret (.bl dV)) (cz ((bb Z).trans ((if_pos (PZ _)).trans rfl))) ?_;show aC (D.bl dV)=aC (D.bl _);congr 2;cases d<;>first|rfl|cases ht
  | tup hl hel=>
   rename_i ds
   have hf:∀x∈ds.filter (fun d=> !ib d),BA x=true:=fun x U=>hel x (Nr.mp U).1;have N:=fL (mi:=ft (mV 2)) (g:=gN 0) (t:=cq) (m:=cu) (js:=[none]) (ρ:=[ar (ah n' E),ar (ah n' E'),ar (.tup ds),none]) (its:=ds) (fun ρ=>∃x,ρ=[x]) (fun d=> !ib d) id rfl (by unfold lim;omega) ⟨none,rfl⟩
    (fun d hd ρ ⟨x,hρ⟩=>by
     subst hρ;exact⟨[ar d],rfl,⟨_,rfl⟩,not_eq (ig (iZ ((e9 rfl).trans (DU (Gp (hel d hd)))))),fun _=>rfl⟩) (by rw[Qs];exact DV hf)
   rw[Qs]at N;have H:c9 fV (aM (bC (ft (mV 2)) (gN 0) cq cu [none])) (aM (bh ak)) [ar (ah n' E),ar (ah n' E'),ar (.tup ds),none]=aC (!(ds.filter fun d=> !ib d).isEmpty):=bM N (bF (us:=[]) rfl (ML _)) (Ac hf);have Z:=lV (q:=tj (dM (bV (fH (mV 2) "tuple"))) (c9 fV (aM (bC (ft (mV 2)) (gN 0) cq cu [none])) (aM (bh ak)))) (c:= !(ds.filter fun d=> !ib d).isEmpty) S fun _=>lV O fun _=>H;rw[MF rfl,OJ,Bool.false_or]at Z;have L:FH n' n' E E' (.tup ds)=(decide (ds.length=n') && (ds.all (cQ n') && match intsOf ds with|some z=>IV E E' z|none=>dV)):=by
    show(decide (n'=n') && _)=_;rw[MF rfl,NF];all_goals rfl
   rw[L];by_cases hw:(ds.filter fun d=> !ib d).isEmpty=b_
   ·obtain⟨z,rfl⟩:=rG hw;rw[hw,OJ]at Z;rw[fe,Mq];rw[Mq]at hl;rw[yw];have s1:=(bb (m:=bz (mK (.bl dV))) (n:=cG) Z).trans (if_neg (by decide))
    have P:aM (cN iO (mV 2)) [ar (ah n' E),ar (ah n' E'),ar (.tup (z.map D.int)),none]=aC (.fz ((sortI z).map D.int)):=by
     unfold aM;rw[eB (x:=.tup (z.map D.int)) rfl];have:iO [.tup (z.map D.int)]=bD ((sortI z).map D.int):=by
      show(match intsOf (z.map D.int)with|some ns=>if ns.length<64 then bD ((sortI ns).map D.int)else M.fail|none=>M.fail)=_
      rw[fe];exact if_pos (by omega)
     rw[this];exact bF (fT _) (by rw[Mq,(sortI_perm z).length_eq];unfold lim;omega)
    have Q:aM (cN bY (aW b7 (mV 0) (mK (.int 0)))) [ar (ah n' E),ar (ah n' E'),ar (.tup (z.map D.int)),none]=aC (.fz ((Bz n').map D.int)):=by
     unfold aM;rw[eB (x:=.int n') rfl,Kb (j:=n') ⟨by omega,by unfold lim;omega⟩,M8,Kh,show(eb n').map (fun i:Nat=>D.int (i:Int))=(Bz n').map D.int by rw[MZ];rfl]
     exact bF (fT _) (by rw[Mq,Mq,MR];unfold lim;omega)
    have X:c9 fV (aM (cN iO (mV 2))) (aM (cN bY (aW b7 (mV 0) (mK (.int 0))))) [ar (ah n' E),ar (ah n' E'),ar (.tup (z.map D.int)),none]=aC (!decide (sortI z=Bz n')):=bM P Q Ab;unfold IE;by_cases hs:sortI z=Bz n'
    ·rw[MF hs,NF];rw[MF hs,OJ]at X;have J:z.length=n':=by
      have:=OG GB hs;rw[(sortI_perm z).length_eq,Mq,MR]at this;exact this
     obtain⟨K,Y⟩:=DX (n:=n') (n':=n') (E:=E) (E':=E') (z:=z) (its:=(eb n').map fun i:Nat=>D.int (i:Int)) (by omega) (eb n') none fun b Z=>by have:=MC.mp Z;omega
     have W:i7 (ki (aW b7 (mV 0) (mK (.int 0)))) (gN 3) fA [ar (ah n' E),ar (ah n' E'),ar (tupI z),none]=aC (if ((eb n').all fun b=>(Bl E E' z b).isEmpty)=b_ then .nx [ar (ah n' E),ar (ah n' E'),ar (tupI z),K]else .ret (.bl dV)):=by
      unfold i7;rw[show ki (aW b7 (mV 0) (mK (.int 0))) [ar (ah n' E),ar (ah n' E'),ar (tupI z),none]=_ from vh (n:=n') rfl (by omega),au]
      exact Y
     have s2:=(bb (m:=bz (mK (.bl dV))) (n:=cG) X).trans (if_neg (by decide))
     refine cZ (o:=.ret (.bl ((eb n').all fun b=>(Bl E E' z b).isEmpty))) ((aV s1).trans ((aV s2).trans ?_)) rfl;cases hq:(eb n').all fun b=>(Bl E E' z b).isEmpty with
     |true=>
      rw[hq,if_pos rfl]at W;exact(aV W).trans rfl
     |false=>
      rw[hq,if_neg (by decide)]at W
      exact cz W
    ·rw[MP hs,NA];rw[MP hs,Pg]at X;exact cZ (o:=.ret (.bl dV)) ((aV s1).trans (cz ((bb X).trans ((if_pos rfl).trans rfl)))) rfl
   ·have T:(ds.filter fun d=> !ib d).isEmpty=false:=by simpa using hw
    rw[T,Pg]at Z;have I:ds.all (cQ n')=false:=by
     cases hq:ds.all (cQ n')with
     |false=>rfl
     |true=>
      obtain⟨z,rfl,_⟩:=jv hq;exact absurd (by rw[Pn,Os];intro x U;obtain⟨i,_,rfl⟩:=MJ.mp U;exact(by decide:¬ (!b_)=b_)) hw
    rw[I,NA,P3];exact cZ (o:=.ret (.bl dV)) (cz ((bb Z).trans ((if_pos rfl).trans rfl))) rfl
 ·have Z:=lV (q:=tj (dM (bV (fH (mV 2) "tuple"))) (c9 fV (aM (bC (ft (mV 2)) (gN 0) cq cu [none])) (aM (bh ak)))) (c:=b_) S fun z=>by
   rw[MP (by omega)]at z;cases z
  refine cZ (o:=.ret (.bl dV)) (cz ((bb Z).trans ((if_pos (PZ _)).trans rfl))) ?_;show aC (D.bl dV)=aC (D.bl _);congr 2;cases d<;>first|rfl|(show dV=(decide (n'=n) && _);rw[MP hnn];rfl)
end
def rH:cV:=bz (Lz (c9 il (mV 4) (aM (bh (ae (mK (.int 12)) (ak))))) (aM (aW bI (mV 4) (aM (bh (ae (jG dV (mV 1)) (ae (jG b_ (mV 1)) (ak))))))) (mV 4))
def m_find:cV:=aI (gZ (dM (bV (C6 (mV 1)))) (bz (mK .non)) (cG)) (aI (bA 4 (aM (bC (ki (mK (.int 13))) (gN 0) cC cD [none,ar 3]))) rH)
def jw:cV:=aI (bA 3 (bh (ae (dC (mV 1) "NoWeb") (ae (dC (mV 1) "NoPlace") (ae (dC (mV 1) "NoPlaces") (ak)))))) (aI (bA 3 (aW bI (mV 3) (aM (bh (ae (dC (mV 1) "NoMap") (ae (dC (mV 1) "NoSharing") (ae (dC (mV 1) "NoRoot") (ak)))))))) (aI (bA 3 (aW bI (mV 3) (aM (bh (ae (dC (mV 1) "NoNumber") (ae (dC (mV 1) "NotJoined") (ae (dC (mV 1) "NoTie") (ak)))))))) (aI (bA 3 (aW bI (mV 3) (aM (bh (ae (dC (mV 1) "NoText") (ae (dC (mV 1) "NoLine") (ae (dC (mV 1) "NoDeed") (ak)))))))) (aI (nj (vC c8 (mV 3) (dC (mV 1) "TooGreat"))) m_find))))
theorem DY(f:D)(c:M D):gp f c=aI (bA 1 (mK .non)) (aI (wt 0 2 1 f c) jw):=rfl
theorem Bo(f g x:D):(jw [ar f,ar x,none,none,none]>>=outD)=(jw [ar g,ar x,none,none,none]>>=outD):=by
 unfold jw m_find rH;simp only[aI,bA,nj,gZ,bz,cG,mV,mK,bh,aW,vC,dC,C6,Lz,dM,bV,c9,ae,ak,aw,cN,bC,aM,jG,ki,JV,AB,gz,au,Fi,JY,JZ,J0,J1,J2,List.set_cons_succ,List.set_cons_zero,outD,mj,G4,Rg,Option.bind,List.getElem?_cons_succ,List.getElem?_cons_zero,Option.join]
theorem DZ(f:D)(c:M D):bR f c []=rz c (fun x=>jw [ar f,ar x,none,none,none]>>=outD):=by
 funext S;unfold bR qf;rw[if_pos (show[f].length=1 from rfl)];show((gp f c [ar f,none,none,none,none])>>=outD) S=_;rw[DY,aV (ρ':=[ar f,ar .non,none,none,none]) rfl];have Z:wt 0 2 1 f c [ar f,ar .non,none,none,none]=CY 2 1 c [ar f,ar .non,none,none,none]:=by
  unfold wt;exact if_pos rfl
 show((wt 0 2 1 f c [ar f,ar .non,none,none,none]>>=fun o=>AB o jw)>>=outD) S=_;rw[Z,gz];show M.bnd (CY 2 1 c [ar f,ar .non,none,none,none]) _ S=_;unfold M.bnd CY rz;cases h:c S with
 |none=>rfl
 | some p=>
  obtain⟨r,S1⟩:=p;cases r with
  |ok a=>rfl
  | ex x=>
   cases x with
   |exc n ds=>
    dsimp only;by_cases hn:n∈bg
    ·rw[if_pos hn,if_pos hn];rfl
    ·rw[if_neg hn,if_neg hn]
   |_=>rfl
theorem dg:∀f c es,bR f c es=bc c es:=by
 intro f c es;unfold bc;cases es with
 |nil=>
  rw[DZ,DZ];congr 1;funext x;exact Bo _ _ x
 |cons e es=>
  unfold bR qf;rw[if_neg (by simp),if_neg (by simp)]
section
variable {f:D}{n:Str}{ds:List D}{S G:aF}{p:Nat}{xs:List D}{z:Option D}
theorem pO(Z:n∈bg)(a:Str):dC (mV 1) a [ar f,ar (.exc n ds),none,z,none]=aC (.bl (cW n a)):=Dz (ds:=ds) (g:=fun n=>cW n a) Z
theorem three(Z:n∈bg)(a b c:Str):ae (dC (mV 1) a) (ae (dC (mV 1) b) (ae (dC (mV 1) c) ak)) [ar f,ar (.exc n ds),none,z,none]=aC [.bl (cW n a),.bl (cW n b),.bl (cW n c)]:=
 aQ (pO Z a) (aQ (pO Z b) (aQ (pO Z c) rfl))
theorem rJ(Y:n∈bg)(a b c:Str)(Z:(S++G)[p]? =ar xs)(U:xs.length<=100):∃p' G',bA 3 (aW bI (mV 3) (aM (bh (ae (dC (mV 1) a) (ae (dC (mV 1) b) (ae (dC (mV 1) c) ak)))))) [ar f,ar (.exc n ds),none,ar (.lst p),none] (S++G)=ar (.ok (.nx [ar f,ar (.exc n ds),none,ar (.lst p'),none]),S++G')/\(S++G')[p']? =ar (xs++[.bl (cW n a),.bl (cW n b),.bl (cW n c)])/\S.length<=p':=by
 refine⟨(S++G).length,G++[xs++[.bl (cW n a),.bl (cW n b),.bl (cW n c)]],?_,by rw[<-MY];exact cM,by rw[Mu];omega⟩
 have X:aM (bh (ae (dC (mV 1) a) (ae (dC (mV 1) b) (ae (dC (mV 1) c) ak)))) [ar f,ar (.exc n ds),none,ar (.lst p),none]=aC (.fz [.bl (cW n a),.bl (cW n b),.bl (cW n c)]):=by
  show iG (ae _ _ _>>=bD)=_;rw[three Y a b c,au];exact bF rfl Ii
 have W:=b9 (f:=bI) (m:=mV 3) (ρ:=[ar f,ar (.exc n ds),none,ar (.lst p),none]) (x:=.lst p) rfl X;show((aW bI _ _ _)>>=fun x=>aC (Out.nx _)) _=_;rw[W,aO (a:=.lst (S++G).length) (S1:=S++(G++[xs++[.bl (cW n a),.bl (cW n b),.bl (cW n c)]]))]
 ·rfl
 ·show(getL p>>=fun xs=>bD (xs++_)) _=_;rw[aO (a:=xs) (S1:=S++G) (by unfold getL;rw[Z];rfl)]
  unfold bD;rw[if_pos (by rw[Mu];show xs.length+3<=lim;unfold lim;omega),MY]
end
theorem find_eq{f:D}{n:Str}{ds:List D}{S:aF}{p:Nat}{bs:List Bool}(X:n∈bg)(R:S[p]? =ar (bs.map D.bl))(L:bs.length=13):
  m_find [ar f,ar (.exc n ds),none,ar (.lst p),none] S=rH [ar f,ar (.exc n ds),none,ar (.lst p),ar (.fz ((bu 0 13).filter (zJ bs)))] S:=by
 have Y:gZ (dM (bV (C6 (mV 1)))) (bz (mK .non)) cG [ar f,ar (.exc n ds),none,ar (.lst p),none]=aC (.nx [ar f,ar (.exc n ds),none,ar (.lst p),none]):=by
  have:dM (bV (C6 (mV 1))) [ar f,ar (.exc n ds),none,ar (.lst p),none]=aC false:=by
   show((wm (fun _=>b_) (.exc n ds)>>=lG)>>=_)=_;rw[Dz X];rfl
  exact(bb this).trans (if_neg (by decide))
 unfold m_find;rw[aV Y];have hi:ki (mK (.int 13)) [ar f,ar (.exc n ds),none,ar (.lst p),none]=aC ⟨bu 0 13,.none⟩:=(uS (x:=.int 13) rfl).trans (Dn (by omega))
 have P:cR ⟨bu 0 13,.none⟩ (gN 0) cC cD (bu 0 13) [none,ar (.lst p)] S=ar (.ok ((bu 0 13).filter (zJ bs)),S):=by
  refine wQ (fun ρ=>∃x,ρ=[x,ar (.lst p)]) (zJ bs) _ _ ⟨none,rfl⟩ fun d hd ρ ⟨x,hρ⟩=>?_;subst hρ;obtain⟨k,U,rfl⟩:=MJ.mp hd;have U:k<13:=MC.mp U;refine⟨_,rfl,⟨_,rfl⟩,?_,rfl⟩;have e:k9 (bs.map D.bl) (0+(k:Int))=ar (.bl (bs.getD k dV)):=by
   rw[Pi];unfold k9 As;rw[Mq];have Y:¬ ((k:Int)<0):=by omega
   have T:(k:Int)<bs.length:=by omega
   have N:k<bs.length:=by omega
   simp[Y,T,N]
  show((getL p>>=fun xs=>match k9 xs (0+(k:Int))with|some d=>(aC d:M D)|none=>M.fail)>>=lG) S=_
  rw[aO (a:=D.bl (bs.getD k dV)) (S1:=S)]
  ·show ar (Res.ok (bs.getD k dV),S)=ar (.ok (bs.getD (0+(k:Int)).toNat dV),S);rw[Pi,M8]
  ·rw[aO (a:=bs.map D.bl) (S1:=S) (by unfold getL;rw[R];rfl),e];rfl
 have hm:bC (ki (mK (.int 13))) (gN 0) cC cD [none,ar 3] [ar f,ar (.exc n ds),none,ar (.lst p),none] S=bD ((bu 0 13).filter (zJ bs)) S:=by
  unfold bC;rw[hi,au];unfold ik;rw[if_pos (by show(bu 0 13).length<=lim;unfold bu lim;rw[Mq,MR];omega)]
  exact aO P
 have O:iG (bC (ki (mK (.int 13))) (gN 0) cC cD [none,ar 3] [ar f,ar (.exc n ds),none,ar (.lst p),none]) S=ar (.ok (.fz ((bu 0 13).filter (zJ bs))),S):=by
  have Z:b8 0 ((bu 0 13).filter (zJ bs))=true:=by
   have:∀l:List Nat,b8 0 ((l.map fun i:Nat=>D.int (0+(i:Int))).filter (zJ bs))=true:=fun l=>by
    induction l with
    |nil=>rfl
    |cons x l ih=>
     rw[MU,List.filter_cons];split
     ·unfold b8;rw[ih];unfold eU;rfl
     ·exact ih
   exact this _
  have X:bD ((bu 0 13).filter (zJ bs)) S=ar (.ok (.lst S.length),S++[(bu 0 13).filter (zJ bs)]):=by
   unfold bD;exact if_pos (ME (OE _ _) (by unfold bu lim;rw[Mq,MR];omega))
  obtain⟨d,W,e,rfl,rfl⟩:=wJ (Q:=fun d W=>d= .fz ((bu 0 13).filter (zJ bs))/\W=S) ⟨_,_,hm.trans X,[(bu 0 13).filter (zJ bs)],S.length,_,rfl,rfl,cM,Ms _,jU (ML _) _ Z,rfl,rfl⟩;exact e
 show(bA 4 _ _>>=fun o=>AB o rH) S=_;rw[aO (a:=.nx [ar f,ar (.exc n ds),none,ar (.lst p),ar (.fz ((bu 0 13).filter (zJ bs)))]) (S1:=S)]
 ·rfl
 ·show(iG _>>=_) S=_;rw[aO O];rfl
def marks(n:Str):List Bool:=[cW n "NoWeb",cW n "NoPlace",cW n "NoPlaces",cW n "NoMap",cW n "NoSharing",cW n "NoRoot",cW n "NoNumber",cW n "NotJoined",cW n "NoTie",cW n "NoText",cW n "NoLine",cW n "NoDeed",cW n "TooGreat"]
theorem rest_eq{f:D}{n:Str}{ds:List D}{us:List D}{v:D}(Y:n∈bg)(U:(bu 0 13).filter (zJ (marks n))=us)(W:∀p,rH [ar f,ar (.exc n ds),none,ar (.lst p),ar (.fz us)]=aC (.ret v))(J:eU 0 v=b_):
  iG (jw [ar f,ar (.exc n ds),none,none,none]>>=outD)=aC v:=by
 refine Dk J fun S=>?_;have L:bA 3 (bh (ae (dC (mV 1) "NoWeb") (ae (dC (mV 1) "NoPlace") (ae (dC (mV 1) "NoPlaces") ak)))) [ar f,ar (.exc n ds),none,none,none] S=ar (.ok (.nx [ar f,ar (.exc n ds),none,ar (.lst S.length),none]),S++[[.bl (cW n "NoWeb"),.bl (cW n "NoPlace"),.bl (cW n "NoPlaces")]]):=by
  show((ae _ _ _>>=bD)>>=fun x=>aC (Out.nx _)) S=_;rw[three Y,au,aO (dv (us:=[.bl (cW n "NoWeb"),.bl (cW n "NoPlace"),.bl (cW n "NoPlaces")]) Ii)];rfl
 obtain⟨H,F,e2,g2,I⟩:=rJ (f:=f) (ds:=ds) (S:=S) Y "NoMap" "NoSharing" "NoRoot" (cM (S:=S) (xs:=[.bl (cW n "NoWeb"),.bl (cW n "NoPlace"),.bl (cW n "NoPlaces")])) (by decide:3<=100)
 obtain⟨E,C,O,g3,G⟩:=rJ (f:=f) (ds:=ds) (S:=S) Y "NoNumber" "NotJoined" "NoTie" g2 (by decide:6<=100)
 obtain⟨Z,X,K,R,N⟩:=rJ (f:=f) (ds:=ds) (S:=S) Y "NoText" "NoLine" "NoDeed" g3 (by decide:9<=100)
 have T:=(Mv.mp R).1;have P:nj (vC c8 (mV 3) (dC (mV 1) "TooGreat")) [ar f,ar (.exc n ds),none,ar (.lst Z),none] (S++X)=ar (.ok (.nx [ar f,ar (.exc n ds),none,ar (.lst Z),none]),(S++X).set Z ((marks n).map D.bl)):=by
  have hm:=J4 (f:=c8) (e1:=mV 3) (ρ:=[ar f,ar (.exc n ds),none,ar (.lst Z),none]) (x:=.lst Z) rfl rfl (pO (f:=f) (ds:=ds) (z:=ar (.lst Z)) Y "TooGreat");refine tG (x:=.non) ((MT hm _).trans ?_);rw[au];show(getL Z>>=fun xs=>lZ Z (xs++[.bl (cW n "TooGreat")])) _=_;rw[aO (eQ R)];exact lB (by show 13<=lim;unfold lim;omega) T
 have Q:=find_eq (f:=f) (ds:=ds) (S:=(S++X).set Z ((marks n).map D.bl)) (p:=Z) (bs:=marks n) Y (M9 T) rfl;rw[U,W]at Q;refine⟨v,(S++X).set Z ((marks n).map D.bl),?_,rfl,X.set (Z - S.length) ((marks n).map D.bl),OF _ _ N⟩;rw[aO (a:=Out.ret v) (S1:=(S++X).set Z ((marks n).map D.bl))]
 ·rfl
 ·unfold jw;exact(aS L).trans ((aS e2).trans ((aS O).trans ((aS K).trans ((aS P).trans Q))))
theorem tS{n:Str}{ds us:List D}{v:D}(X:n∈bg)(Y:(bu 0 13).filter (zJ (marks n))=us)(Z:∀f p,rH [ar f,ar (.exc n ds),none,ar (.lst p),ar (.fz us)]=aC (.ret v))(W:eU 0 v=b_):
  iG (bc (M.raise (.exc n ds)) [])=aC v:=by
 unfold bc;rw[DZ];have:rz (M.raise (.exc n ds)) (fun x=>jw [ar (.fn 0 0 "" [] []),ar x,none,none,none]>>=outD)=(jw [ar (.fn 0 0 "" [] []),ar (.exc n ds),none,none,none]>>=outD):=by
  funext S;show(if n∈bg then _ else none)=_;rw[if_pos X]
 rw[this];exact rest_eq X Y (Z _) W
theorem eq_12{f x:D}{p:Nat}{k:Int}:c9 il (mV 4) (aM (bh (ae (mK (.int 12)) ak))) [ar f,ar x,none,ar (.lst p),ar (.fz [.int k])]=aC (decide (k=12)):=by
 have Z:aM (bh (ae (mK (.int 12)) ak)) [ar f,ar x,none,ar (.lst p),ar (.fz [.int k])]=aC (.fz [.int 12]):=bF (us:=[.int 12]) rfl (by show 1<=lim;unfold lim;omega)
 refine bM (x:=.fz [.int k]) rfl Z (bp fun S=>?_);unfold il;refine(dY (p:=.list [.int k]) (q:=.list [.int 12]) rfl rfl).mpr ⟨?_,rfl⟩;have:gg (.list [.int k]) (.list [.int 12])=decide (k=12):=by
  rw[OD];simp[gg,ly]
 rw[this]
theorem Kk{f x:D}{p:Nat}{k:Int}(h:k≠12):rH [ar f,ar x,none,ar (.lst p),ar (.fz [.int k])]=aC (.ret (.fz [.int k])):=by
 refine eN ?_;show(c9 il _ _ _>>=_)=_;rw[eq_12,au,if_neg (by rw[Nh];exact h)]
 rfl
theorem Ae:iG (bc (M.raise (.exc "NoWeb" [])) [])=aC (.fz [.int 0]):=tS (by decide) (by rfl) (fun f p=>Kk (by decide)) rfl
theorem tT{L:Nat}:iG (bc (M.raise (great L)) [])=aC (.fz [.int 12,.int L,.int 7]):=by
 refine tS (n:="TooGreat") (us:=[.int 12]) (by decide) (by rfl) (fun f p=>?_) rfl
 refine eN ?_;show(c9 il _ _ _>>=_)=_;rw[eq_12,au,if_pos (by decide)]
 have Z:∀b,jG b (mV 1) [ar f,ar (great L),none,ar (.lst p),ar (.fz [.int 12])]=aC (if b then .int 7 else .int L):=fun b=>by
  show zx b (great L)=_;unfold great zx;exact if_pos (by decide)
 have Y:aM (bh (ae (jG dV (mV 1)) (ae (jG b_ (mV 1)) ak))) [ar f,ar (great L),none,ar (.lst p),ar (.fz [.int 12])]=aC (.fz [.int L,.int 7]):=by
  show iG ((jG dV (mV 1) _>>=fun x=>(jG b_ (mV 1) _>>=fun y=>_)>>=_)>>=bD)=_;rw[Z,Z];exact bF (us:=[.int L,.int 7]) rfl pq
 have X:=b9 (f:=bI) (m:=mV 4) (ρ:=[ar f,ar (great L),none,ar (.lst p),ar (.fz [.int 12])]) (x:=.fz [.int 12]) rfl Y;exact(OG iG X).trans (bF (us:=[.int 12,.int L,.int 7]) rfl Ii)
def rK(a b:Nat):List D:=[.non,.int 0,.tup [],.tup [.int 15,.tup []],.tup [.int (-1),.tup []],.tup [.bl b_,.tup []],.tup [.int 2,.lst a],.lst b,.tup [.int 2,.tup [.tup [.int 1,.int 0]]],.tup [.int 2,.tup [.tup [.int 0,.int 0]]],.emp,.str "2:"]
def rL:List D:=[.tup [.int 2,.tup [.tup [.int 0,.int 1],.tup [.int 0,.int 1]]],.tup [.int 3,.tup [.tup [.int 0,.int 2],.tup [.int 0,.int 1]]],.tup [.int 2,.tup [.tup [.int 0,.int 2]]],.tup [.int 2,.tup [.tup [.int 0,.bl b_]]],.tup [.int 2,.tup [.tup [.int 0,.int 1,.int 1]]]]
def vk(c:Nat):List D:=[.tup [.int 2,.tup [.int 0,.int 1]],.tup [.int 2,.non],.tup [.int 2,.tup [],.tup []],.tup [.int 2],.tup [.int 2,.tup [.lst c]],.tup [.int 2,.tup [.non]],.tup [.str "2",.tup []],.tup [.int 0,.tup [.tup [.int 0,.int 1]]]]
theorem IG{n a b c:Nat}{S:aF}(X:n<=a)(K:n<=b)(J:n<=c)(U:S[a]? =ar [])(N:S[b]? =ar [.int 2,.tup []])(L:S[c]? =ar [.int 0,.int 1]):∀d∈rK a b++rL++vk c,∃u,jr n (xn S n 60) d=ar u/\Good u/\i9 u=false:=by
 have Y:=mz (f:=59) X U rfl;have Z:=mz (f:=59) K N rfl;have H:=mz (f:=59) J L rfl;have O:∀d,eU 0 d=b_->Dw d=b_->i9 d=dV->∃u,jr n (xn S n 60) d=ar u/\Good u/\i9 u=false:=fun d R Q P=>⟨d,qP d (wI (ML _) d R),nG Q,P⟩;have W:∃u,jr n (xn S n 60) (.tup [.int 2,.lst a])=ar u/\Good u/\i9 u=false:=⟨.tup [.int 2,.fz []],by unfold jr gU gU gU;rw[Y];rfl,nG rfl,rfl⟩
 have T:∃u,jr n (xn S n 60) (.lst b)=ar u/\Good u/\i9 u=false:=⟨_,Z,nG rfl,rfl⟩;have I:∃u,jr n (xn S n 60) (.tup [.int 2,.tup [.lst c]])=ar u/\Good u/\i9 u=false:=⟨.tup [.int 2,.tup [.fz [.int 0,.int 1]]],by
  have:jr n (xn S n 60) (.tup [.lst c])=ar (.tup [.fz [.int 0,.int 1]]):=by unfold jr gU gU;rw[H];rfl
  unfold jr gU gU gU;rw[this];rfl,nG rfl,rfl⟩
 intro d hd;simp only[rK,rL,vk,M_,f',fb,or_false]at hd;rcases hd with((rfl|rfl|rfl|rfl|rfl|rfl|rfl|rfl|rfl|rfl|rfl|rfl)|(rfl|rfl|rfl|rfl|rfl))|(rfl|rfl|rfl|rfl|rfl|rfl|rfl|rfl)<;>first|exact W|exact T|exact I|exact O _ rfl rfl rfl
def bT(S:aF):aF:=[[],[.int 2,.tup []],rK S.length (S.length+1),rL,rK S.length (S.length+1)++rL,[.int 0,.int 1],vk (S.length+5),rK S.length (S.length+1)++rL++vk (S.length+5)]
theorem FK{S Z:aF}{k:Nat}{j:Int}{d:D}(W:aJ [.lst k,.int 25] (S++bT S)=ar (.ok (.int j),Z))(X:Z[S.length+7]? =ar (rK S.length (S.length+1)++rL++vk (S.length+5)))(Y:k9 (rK S.length (S.length+1)++rL++vk (S.length+5)) j=ar d):
  gk [ar (.lst k),none] S=ar (.ok (.ret d),Z):=by
 unfold gk;refine(aS (ρ':=[ar (.lst k),ar (.lst (S.length+2))]) (S1:=S++(bT S).take 3) (bN (x:=.lst (S.length+2)) ?_)).trans ((aS (ρ':=[ar (.lst k),ar (.lst (S.length+4))]) (S1:=S++(bT S).take 5) (bN (x:=.lst (S.length+4)) ?_)).trans ((aS (ρ':=[ar (.lst k),ar (.lst (S.length+7))]) (S1:=S++bT S) (bN (x:=.lst (S.length+7)) ?_)).trans (gr ?_)))
 ·refine(og (ys:=rK S.length (S++[[]]).length) (S1:=S++[[]]++[[.int 2,.tup []]]) rfl (by show 12<=lim;unfold lim;omega)).trans ?_
  rw[show(S++([[]]:aF)).length=S.length+1 from Mu,MY,Mu,MY];rfl
 ·refine(gw (x:=.lst (S.length+2)) rfl (og (ys:=rL) (S1:=S++(bT S).take 3) rfl (by show 5<=lim;unfold lim;omega))).trans ?_
  rw[MY,Mu];refine(zA (xs:=rK S.length (S.length+1)) (ys:=rL) (sj 2) (sj 3) (by show 17<=lim;unfold lim;omega)).trans ?_
  rw[MY,Mu];rfl
 ·refine(gw (x:=.lst (S.length+4)) rfl (og (ys:=vk (S++(bT S).take 5).length) (S1:=S++(bT S).take 5++[[.int 0,.int 1]]) rfl (by show 8<=lim;unfold lim;omega))).trans ?_
  rw[show(S++(bT S).take 5).length=S.length+5 from Mu,MY,MY,Mu];refine(zA (xs:=rK S.length (S.length+1)++rL) (ys:=vk (S.length+5)) (sj 4) (sj 6) (by show 25<=lim;unfold lim;omega)).trans ?_
  rw[Mu];exact OG (fun x=>ar (Res.ok (D.lst (S.length+7)),x)) (MY _ _ _)
 ·refine(gw (x:=.lst (S.length+7)) (y:=.int j) (S2:=Z) rfl ?_).trans (Do X Y);exact W
theorem IH{S:aF}{k:Nat}(hs:d9 S k):∃d S1,iG (dF [.lst k]) S=ar (.ok d,S1)/\Good d/\i9 d=dV/\Kp k S S1/\S1.length=S.length:=by
 obtain⟨_,Y,P,j,rfl,T,U,Z⟩:=zH (Q:=fun d Y=>∃j,d= .int j/\0<=j/\j<25/\Kp k (S++bT S) Y) hs.grow (many:=25) (by decide) (by decide) fun j Y a b _ X=>⟨j,rfl,a,b,X⟩
 have N:=hs.lt;have gt:∀i us,(S++bT S)[S.length+i]? =ar us->Y[S.length+i]? =ar us:=fun i us h=>(Z.oth (S.length+i) (Mv.mp h).1 (by omega)).trans h
 obtain⟨d,R,hd⟩:=Gh (xs:=rK S.length (S.length+1)++rL++vk (S.length+5)) T U;have X:Kp k S Y:=(Kp.grow hs _).trans Z;obtain⟨u,W,O,hw⟩:=IG (n:=S.length) (a:=S.length) (b:=S.length+1) (c:=S.length+5) (S:=Y) (Ms _) (Ol _ _) (Ol _ _) (gt 0 _ (sj 0)) (gt 1 _ (sj 1)) (gt 5 _ (sj 5)) d hd;refine⟨u,_,jV (fW (FK P (gt 7 _ (sj 7)) R) rfl) (lD X) (.inl ?_) X.len W,O,hw,u7 hs X⟩;have:=Z.len;rw[Mu,show(bT S).length=8 from rfl]at this;omega
def Tp(m:Nat)(d:D):Prop:=∃us,d= .tup us/\us.length<=m/\∀x∈us,BA x=b_
theorem Tp.cl{m:Nat}{d:D}(h:Tp m d):eU 0 d=true:=by
 obtain⟨us,rfl,_,h⟩:=h;exact DV h
theorem Tp.th{m:Nat}{d:D}(h:Tp m d)(Z:m<=50):Th d:=by
 obtain⟨us,rfl,l,h⟩:=h;exact .tup (by omega) h
section
variable {e e1 e2:TM}{ρ:aP}{m a b:Nat}{d:D}
theorem rM{lo hi:aP->M (Option Int)}{l h:Option Int}(W:e ρ=aC d)(S:Tp m d)(Y:lo ρ=aC l)(Z:hi ρ=aC h)(Q:m<=50):∃d',aM (mH e lo hi) ρ=aC d'/\Tp m d':=by
 obtain⟨us,rfl,R,T⟩:=S;have X:(S3.cutD us l h).Sublist us:=by
  unfold S3.cutD;exact(Qa _ _).trans (List.drop_sublist _ _)
 have:=X.length_le;refine⟨.tup (S3.cutD us l h),iZ ?_,_,rfl,by omega,fun x U=>T x (X.subset U)⟩
 show(e ρ>>=fun x=>lo ρ>>=fun lo=>hi ρ>>=fun hi=>qk x lo hi)=_;rw[W,au,Y,au,Z,au];show bK (S3.cutD us l h)=_;unfold bK;exact if_pos (by unfold lim;omega)
theorem ou{Y Z:D}(S:e1 ρ=aC Y)(U:Tp a Y)(R:e2 ρ=aC Z)(Q:Tp b Z)(N:a+b<=50):∃d',aM (aW bI e1 e2) ρ=aC d'/\Tp (a+b) d':=by
 obtain⟨us,rfl,O,W⟩:=U;obtain⟨vs,rfl,P,T⟩:=Q;refine⟨.tup (us++vs),iZ ((b9 S R).trans ?_),_,rfl,by rw[Mu];omega,fun x X=>(NQ.mp X).elim (W x) (T x)⟩
 show bK (us++vs)=_;unfold bK;exact if_pos (by rw[Mu];unfold lim;omega)
theorem D0(Y:e ρ=aC d)(U:Tp m d)(T:m<=50):∃d',aM (CK e) ρ=aC d'/\Tp m d':=by
 obtain⟨us,rfl,Z,W⟩:=U;refine⟨.tup us.reverse,iZ ?_,_,rfl,by rw[PF];exact Z,fun x X=>W x (List.mem_reverse.mp X)⟩
 show(e ρ>>=Hv)=_;rw[Y,au];show bK us.reverse=_;unfold bK;exact if_pos (by rw[PF];unfold lim;omega)
theorem D1(Y:e ρ=aC d)(Z:BA d=b_):eT (ae e ak) ρ=aC (.tup [d])/\Tp 1 (.tup [d]):=by
 refine⟨?_,_,rfl,Ms _,fun x X=>by rw[NH.mp X];exact Z⟩
 show(ae _ _ _>>=bK)=_;rw[aQ Y (es:=ak) rfl,au];unfold bK;exact if_pos (show 1<=lim by unfold lim;omega)
theorem oV{i:Int}(h:e ρ=aC (.int i)):oS e ρ=aC (ar i):=by unfold oS;rw[h];rfl
end
theorem yx{z:List Int}{m:Nat}(h:z.length<=m):Tp m (tupI z):=⟨z.map D.int,rfl,by rw[Mq];exact h,Ad z⟩
def Af:TM:=aM (bh (aB (aM (aW bI (aM (aW bI (aM (mH (mV 1) (oN) (oS (mV 2)))) (eT (ae (mV 4) (ak))))) (aM (mH (mV 1) (oS (aW bI (mV 2) (mK (.int 1)))) (oN))))) (aB (aM (aW bI (aM (mH (mV 1) (oN) (oS (mV 2)))) (aM (mH (mV 1) (oS (aW bI (mV 2) (mK (.int 1)))) (oN))))) (aB (aM (aW bI (aM (aW bI (aM (mH (mV 1) (oN) (oS (mV 2)))) (eT (ae (mV 4) (ak))))) (aM (mH (mV 1) (oS (mV 2)) (oN))))) (aB (aM (cN m3 (mV 1))) (aB (mK .non) (ak)))))))
def pP:TM:=aM (bh (aB (aM (aW bI (aM (mH (mV 1) (oS (mV 2)) (oN))) (aM (mH (mV 1) (oN) (oS (mV 2)))))) (aB (aM (aW bI (aM (mH (mV 1) (oN) (oS (aw minD (ae (mV 2) (ae (mV 3) (ak))))))) (aM (CK (aM (mH (mV 1) (oS (aw minD (ae (mV 2) (ae (mV 3) (ak))))) (oN))))))) (aB (mK .emp) (aB (mK (.int 0)) (aB (aM (CK (mV 1))) (aB (eT (ae (mV 1) (ak))) (ak))))))))
def Ag:TM:=aM (bh (aB (cN dW (mV 1)) (aB (mK (.int (-1))) (aB (mK (.bl b_)) (aB (mK .non) (aB (mK (.str "0")) (aB (mK (.tup [.int 0])) (aB (mK (.int 0)) (aB (aW vP (mK (.int 10)) (mK (.int 29))) (ak))))))))))
theorem FL:jg=aI (wb 2 3 (ae (aM (aw aJ (ae (mV 0) (ae (aW bI (cN dW (mV 1)) (mK (.int 1))) (ak))))) (ae (aM (aw aJ (ae (mV 0) (ae (aW bI (cN dW (mV 1)) (mK (.int 1))) (ak))))) (ak)))) (aI (bA 4 (aW b7 Ag (aM (aw aJ (ae (mV 0) (ae (mK (.int 8)) (ak))))))) (aI (bA 5 Af) (aI (bA 5 (aM (aW bI (mV 5) pP))) (bz (aW b7 (mV 5) (aM (aw aJ (ae (mV 0) (ae (mK (.int 11)) (ak)))))))))):=rfl
section
variable {k:Nat}{z:List Int}{i j:Int}{odd:D}{x5:Option D}
theorem things{es:aP->M (List D)}{ρ:aP}{us:List D}(Y:es ρ=aC us)(Z:b8 0 us=b_)(X:us.length<=50):aM (bh es) ρ=aC (.fz us):=by
 show iG (es ρ>>=bD)=_;rw[Y,au];exact bF Z (by unfold lim;omega)
theorem LP{us:List D}(h:∀x∈us,Th x/\eU 0 x=b_):b8 0 us=true:=by
 induction us with
 |nil=>rfl
 |cons x us ih=>
  unfold b8;rw[(h x (.head _)).2,ih fun y Z=>h y (.tail _ Z)];rfl
theorem Kl(F:z.length<=7)(O:BA odd=b_):∃us,Af [ar (.lst k),ar (tupI z),ar (.int i),ar (.int j),ar odd,x5]=aC (.fz us)/\us.length=5/\∀x∈us,Th x/\eU 0 x=true:=by
 have t0:=yx (m:=7) F;obtain⟨y,T,t1⟩:=rM (e:=mV 1) (ρ:=[ar (.lst k),ar (tupI z),ar (.int i),ar (.int j),ar odd,x5]) (lo:=oN) (hi:=oS (mV 2)) rfl t0 rfl (oV (i:=i) rfl) (by decide)
 obtain⟨v,S,R⟩:=rM (e:=mV 1) (ρ:=[ar (.lst k),ar (tupI z),ar (.int i),ar (.int j),ar odd,x5]) (lo:=oS (aW bI (mV 2) (mK (.int 1)))) (hi:=oN) rfl t0 (oV (i:=i+1) rfl) rfl (by decide)
 obtain⟨A,I,t3⟩:=rM (e:=mV 1) (ρ:=[ar (.lst k),ar (tupI z),ar (.int i),ar (.int j),ar odd,x5]) (lo:=oS (mV 2)) (hi:=oN) rfl t0 (oV (i:=i) rfl) rfl (by decide)
 obtain⟨H,N⟩:=D1 (e:=mV 4) (ρ:=[ar (.lst k),ar (tupI z),ar (.int i),ar (.int j),ar odd,x5]) rfl O;obtain⟨w,W,Y⟩:=ou T t1 H N (by decide)
 obtain⟨J,B,Q⟩:=ou W Y S R (by decide)
 obtain⟨E,G,U⟩:=ou T t1 S R (by decide)
 obtain⟨L,C,P⟩:=ou W Y I t3 (by decide)
 have K:aM (cN m3 (mV 1)) [ar (.lst k),ar (tupI z),ar (.int i),ar (.int j),ar odd,x5]=aC (.fz (z.map D.int)):=by
  unfold aM;rw[eB (x:=tupI z) rfl];exact bF (fT _) (by rw[Mq];unfold lim;omega)
 have Z:∀x∈[J,E,L,.fz (z.map D.int),.non],Th x/\eU 0 x=true:=fun x X=>by
  simp only[f',fb,or_false]at X;rcases X with rfl|rfl|rfl|rfl|rfl
  ·exact⟨Q.th (by decide),Q.cl⟩
  ·exact⟨U.th (by decide),U.cl⟩
  ·exact⟨P.th (by decide),P.cl⟩
  ·exact⟨.oth rfl rfl,fT z⟩
  ·exact⟨.oth rfl rfl,rfl⟩
 exact⟨_,things (aQ B (aQ G (aQ C (aQ K (aQ (e:=mK .non) (x:=.non) rfl (es:=ak) rfl))))) (LP Z) (by show 5<=50;decide),rfl,Z⟩
theorem Km(E:z.length<=7):∃us,pP [ar (.lst k),ar (tupI z),ar (.int i),ar (.int j),ar odd,x5]=aC (.fz us)/\us.length=6/\∀x∈us,Th x/\eU 0 x=true:=by
 have t0:=yx (m:=7) E;have Y:aw minD (ae (mV 2) (ae (mV 3) ak)) [ar (.lst k),ar (tupI z),ar (.int i),ar (.int j),ar odd,x5]=aC (.int (if j<i then j else i)):=(call2 (x:=.int i) (y:=.int j) rfl rfl).trans rfl;obtain⟨w,N,t1⟩:=rM (e:=mV 1) (ρ:=[ar (.lst k),ar (tupI z),ar (.int i),ar (.int j),ar odd,x5]) (lo:=oS (mV 2)) (hi:=oN) rfl t0 (oV (i:=i) rfl) rfl (by decide)
 obtain⟨t,L,K⟩:=rM (e:=mV 1) (ρ:=[ar (.lst k),ar (tupI z),ar (.int i),ar (.int j),ar odd,x5]) (lo:=oN) (hi:=oS (mV 2)) rfl t0 rfl (oV (i:=i) rfl) (by decide)
 obtain⟨S,I,t3⟩:=ou N t1 L K (by decide)
 obtain⟨s,H,P⟩:=rM (e:=mV 1) (lo:=oN) rfl t0 rfl (oV Y) (by decide)
 obtain⟨u,Q,R⟩:=rM (e:=mV 1) (hi:=oN) rfl t0 (oV Y) rfl (by decide)
 obtain⟨v,A,G⟩:=D0 Q R (by decide)
 obtain⟨C,F,W⟩:=ou H P A G (by decide)
 obtain⟨O,B,T⟩:=D0 (e:=mV 1) (ρ:=[ar (.lst k),ar (tupI z),ar (.int i),ar (.int j),ar odd,x5]) rfl t0 (by decide)
 obtain⟨J,U⟩:=D1 (e:=mV 1) (ρ:=[ar (.lst k),ar (tupI z),ar (.int i),ar (.int j),ar odd,x5]) (d:=tupI z) rfl (by show(intsOf (z.map D.int)).isSome=b_;rw[fe];rfl)
 have Z:∀x∈[S,C,.emp,.int 0,O,.tup [tupI z]],Th x/\eU 0 x=true:=fun x X=>by
  simp only[f',fb,or_false]at X;rcases X with rfl|rfl|rfl|rfl|rfl|rfl
  ·exact⟨t3.th (by decide),t3.cl⟩
  ·exact⟨W.th (by decide),W.cl⟩
  ·exact⟨.oth rfl rfl,rfl⟩
  ·exact⟨.oth rfl rfl,rfl⟩
  ·exact⟨T.th (by decide),T.cl⟩
  ·exact⟨U.th (by decide),U.cl⟩
 exact⟨_,things (aQ I (aQ F (aQ (e:=mK .emp) (x:=.emp) rfl (aQ (e:=mK (.int 0)) (x:=.int 0) rfl (aQ B (aQ J (es:=ak) rfl)))))) (LP Z) (by show 6<=50;decide),rfl,Z⟩
theorem Kn{r:List (Option D)}:Ag (ar (.lst k)::ar (tupI z)::r)=aC (.fz [.int z.length,.int (-1),.bl b_,.non,.str "0",.tup [.int 0],.int 0,.int (10 ^ 29)]):=by
 have hlen:cN dW (mV 1) (ar (.lst k)::ar (tupI z)::r)=aC (.int z.length):=by
  refine(eB (x:=tupI z) rfl).trans ?_;show aC (D.int (z.map D.int).length)=_;rw[Mq]
 have Z:aW vP (mK (.int 10)) (mK (.int 29)) (ar (.lst k)::ar (tupI z)::r)=aC (.int (10 ^ 29)):=(b9 (x:=.int 10) (y:=.int 29) rfl rfl).trans (if_pos (e:=M.fail) (show BH 10 29 from⟨by decide,by decide,by decide⟩))
 exact things (aQ hlen (aQ (e:=mK (.int (-1))) (x:=.int (-1)) rfl (aQ (e:=mK (.bl b_)) (x:=.bl b_) rfl (aQ (e:=mK .non) (x:=.non) rfl (aQ (e:=mK (.str "0")) (x:=.str "0") rfl (aQ (e:=mK (.tup [.int 0])) (x:=.tup [.int 0]) rfl (aQ (e:=mK (.int 0)) (x:=.int 0) rfl (aQ Z (es:=ak) rfl)))))))) rfl (by show 8<=50;decide)
theorem FM{S:aF}(hs:d9 S k)(U:z.length<=7):∃d S1,iG (di [.lst k,tupI z]) S=ar (.ok d,S1)/\Th d/\eU 0 d=b_/\Kp k S S1/\S1.length=S.length:=by
 have hlen:aW bI (cN dW (mV 1)) (mK (.int 1)) [ar (.lst k),ar (tupI z),none,none,none,none]=aC (.int ((z.length:Int)+1)):=by
  refine(b9 (x:=.int z.length) (y:=.int 1) ((eB (x:=tupI z) rfl).trans ?_) rfl).trans rfl;show aC (D.int (z.map D.int).length)=_;rw[Mq]
 obtain⟨i,n,e1,s,h,k1,q⟩:=jl (e1:=mV 0) (ρ:=[ar (.lst k),ar (tupI z),none,none,none,none]) hs rfl hlen (by omega) (by omega)
 obtain⟨j,I,e2,l,r,k2,t⟩:=jl (e1:=mV 0) (ρ:=[ar (.lst k),ar (tupI z),none,none,none,none]) k1.st rfl hlen (by omega) (by omega)
 obtain⟨a,Y,N,a0,a1,k3,g⟩:=jl (e1:=mV 0) (e2:=mK (.int 8)) (ρ:=[ar (.lst k),ar (tupI z),ar (.int i),ar (.int j),none,none]) (m:=8) k2.st rfl rfl (by decide) (by decide)
 obtain⟨odd,T,L⟩:=tP (ds:=[.int z.length,.int (-1),.bl b_,.non,.str "0",.tup [.int 0],.int 0,.int (10 ^ 29)]) a0 a1;have X:BA odd=true:=by
  simp only[f',fb,or_false]at T;rcases T with rfl|rfl|rfl|rfl|rfl|rfl|rfl|rfl<;>first|rfl|decide+kernel
 obtain⟨us,B,E,P⟩:=Kl (k:=k) (z:=z) (i:=i) (j:=j) (odd:=odd) (x5:=none) U X;obtain⟨vs,K,lv,G⟩:=Km (k:=k) (z:=z) (i:=i) (j:=j) (odd:=odd) (x5:=ar (.fz us)) U;have Z:∀x∈us++vs,Th x/\eU 0 x=true:=fun x Q=>(NQ.mp Q).elim (P x) (G x);have A:aM (aW bI (mV 5) pP) [ar (.lst k),ar (tupI z),ar (.int i),ar (.int j),ar odd,ar (.fz us)]=aC (.fz (us++vs)):=by
  show iG (aW bI (mV 5) pP _)=_;rw[b9 (x:=.fz us) rfl K];exact bF (LP Z) (by rw[Mu];unfold lim;omega)
 obtain⟨c,W,v,R,H,F,p⟩:=jl (e1:=mV 0) (e2:=mK (.int 11)) (ρ:=[ar (.lst k),ar (tupI z),ar (.int i),ar (.int j),ar odd,ar (.fz (us++vs))]) (m:=11) k3.st rfl rfl (by decide) (by decide)
 obtain⟨d,hd,w⟩:=tP (ds:=us++vs) R (by rw[Mu,E,lv];exact H)
 obtain⟨O,cd⟩:=Z d hd;have u:=((k1.trans k2).trans k3).trans F;have hm:jg [ar (.lst k),ar (tupI z),none,none,none,none] S=ar (.ok (.ret d),W):=by
  rw[FL];exact(aS (DC (cA e1 (cA e2 rfl)))).trans ((aS (bN ((gw (MT Kn I) N).trans (MT L Y)))).trans ((MT (aV (gF B)) Y).trans ((MT (aV (gF A)) Y).trans (gr ((gw (x:=.fz (us++vs)) (S1:=Y) rfl v).trans (MT w W))))))
 obtain⟨S1,J,C⟩:=wU (c:=di [.lst k,tupI z]) (d:=d) hs (fW (o:=.ret d) hm rfl) u cd;exact⟨d,S1,J,O,cd,C⟩
end
theorem II{e1 e2:TM}{ρ:aP}{x y:D}(Y:e1 ρ=aC x)(Z:e2 ρ=aC y):eT (ae e1 (ae e2 ak)) ρ=aC (.tup [x,y]):=by
 show(ae _ _ _>>=bK)=_;rw[aQ Y (aQ Z (es:=ak) rfl),au];unfold bK;exact if_pos pq
section
variable {S:aF}{k:Nat}
theorem Ko{g:Nat}{ρ:aP}(Y:g<=7)(hs:d9 S k)(Z:mV 0 ρ=aC (.lst k))(W:mV 1 ρ=aC (.int g)):∃(n:Nat) (E:List (List Int)) (S1:aF),aM (aw d0 (ae (mV 0) (ae (mV 1) ak))) ρ S=ar (.ok (ah n E),S1)/\n<=7/\WebOk n E/\Kp k S S1/\S1.length=S.length:=by
 obtain⟨n,E,S1,e,h,w,X⟩:=IC Y hs;refine⟨n,E,S1,?_,by omega,w,X⟩
 unfold aM;rw[call2 Z W];exact e
theorem FN(hs:d9 S k):∃(n:Nat) (E:List (List Int)) (n':Nat) (E':List (List Int)) (S1:aF),iG (eY [.lst k]) S=ar (.ok (.tup [ah n E,ah n' E']),S1)/\n<=7/\WebOk n E/\n'<=7/\WebOk n' E'/\Kp k S S1/\S1.length=S.length:=by
 obtain⟨i,s,e1,f,i1,k1,b⟩:=jl (e1:=mV 0) (e2:=mK (.int 3)) (ρ:=[ar (.lst k),none,none,none,none]) (m:=3) hs rfl rfl (by decide) (by decide)
 obtain⟨d,hd,ed⟩:=tP (ds:=[.int 6,.int 6,.int 7]) f i1;have Q:∃g:Nat,d= .int g/\g<=7:=by
  simp only[f',fb,or_false]at hd;rcases hd with rfl|rfl|rfl
  ·exact⟨6,rfl,by decide⟩
  ·exact⟨6,rfl,by decide⟩
  ·exact⟨7,rfl,by decide⟩
 obtain⟨g,rfl,Q⟩:=Q;have v:aW b7 (aM (bh (ae (mK (.int 6)) (ae (mK (.int 6)) (ae (mK (.int 7)) ak))))) (aM (aw aJ (ae (mV 0) (ae (mK (.int 3)) ak)))) [ar (.lst k),none,none,none,none] S=ar (.ok (.int g),s):=
  (gw (MT (bF (us:=[.int 6,.int 6,.int 7]) rfl (by show 3<=lim;unfold lim;omega)) S) e1).trans (MT ed s)
 obtain⟨n,E,K,e2,t,w,k2,r⟩:=Ko (ρ:=[ar (.lst k),ar (.int g),none,none,none]) Q k1.st rfl rfl;obtain⟨j,X,G,j0,j1,k3,l3⟩:=jl (e1:=mV 0) (e2:=mK (.int 4)) (ρ:=[ar (.lst k),ar (.int g),ar (ah n E),none,none]) (m:=4) k2.st rfl rfl (by decide) (by decide)
 have F:=(k1.trans k2).trans k3;have lS:=l3.trans (r.trans b);have A:c9 il (mV 3) (mK (.int 0)) [ar (.lst k),ar (.int g),ar (ah n E),ar (.int j),none]=aC (decide (j=0)):=bM (x:=.int j) (y:=.int 0) rfl rfl IT;have key:∃(n':Nat) (E':List (List Int)) (T:aF),jj [ar (.lst k),none,none,none,none] S=ar (.ok (.ret (.tup [ah n E,ah n' E'])),T)/\n'<=7/\WebOk n' E'/\Kp k S T:=by
  unfold jj;by_cases h0:j=0
  ·obtain⟨n',E',Z,H,Y,O,P,z⟩:=Ko (ρ:=[ar (.lst k),ar (.int g),ar (ah n E),ar (.int j),none]) Q k3.st rfl rfl;exact⟨n',E',Z,(aS (bN v)).trans ((aS (bN e2)).trans ((aS (bN G)).trans (nF ((MT ((bb A).trans (if_pos (MF h0))) X).trans (gr (rl (x:=ah n E) (S1:=X) rfl H)))))),Y,O,F.trans P⟩
  ·obtain⟨zs,Z,H,C,P,z⟩:=rC (n:=n) (ρ:=[ar (.lst k),ar (.int g),ar (ah n E),ar (.int j),none]) (e1:=mV 0) (e2:=aW b7 (mV 2) (mK (.int 0))) k3.st (by omega) rfl rfl
   have R:=DH C w;have B:aM (aw dZ (ae (mV 2) (ae (aM (aw bj (ae (mV 0) (ae (aM (cN bY (aW b7 (mV 2) (mK (.int 0))))) ak)))) ak))) [ar (.lst k),ar (.int g),ar (ah n E),ar (.int j),none] X=ar (.ok (ah n (dz (E.map (yt zs)))),Z):=by
    have p:aw dZ (ae (mV 2) (ae (aM (aw bj (ae (mV 0) (ae (aM (cN bY (aW b7 (mV 2) (mK (.int 0))))) ak)))) ak)) [ar (.lst k),ar (.int g),ar (ah n E),ar (.int j),none] X=ar (.ok (ah n (dz (E.map (yt zs)))),Z):=(aO (cA (x:=ah n E) (S1:=X) rfl (cA H rfl))).trans (MT (Fv C w) Z);have:=jV (u:=ah n (dz (E.map (yt zs)))) p (lD P) (.inr rfl) (by omega) (qP _ (wI (ML _) _ rA))
    unfold aM;rw[this, <-z,QA]
   generalize hT:dz (E.map (yt zs))=T at B R;have s0:=(MT ((bb (m:=bz (eT (ae (mV 2) (ae (aM (aw d0 (ae (mV 0) (ae (mV 1) (ak))))) (ak))))) (n:=cG) A).trans (if_neg (by rw[Nh];exact h0))) X)
   have W:ye (c9 il (mV 3) (mK (.int 1))) (c9 yN (aW b7 (mV 2) (mK (.int 0))) (mK (.int 1))) [ar (.lst k),ar (.int g),ar (ah n E),ar (.int j),ar (ah n T)]=aC (decide (j=1) && decide (1<(n:Int))):=by
    have l:c9 il (mV 3) (mK (.int 1)) [ar (.lst k),ar (.int g),ar (ah n E),ar (.int j),ar (ah n T)]=aC (decide (j=1)):=bM (x:=.int j) (y:=.int 1) rfl rfl IT;show(c9 il _ _ _>>=_)=_;rw[l,au];cases decide (j=1)with
    |false=>rfl
    |true=>exact bM (x:=.int n) (y:=.int 1) rfl rfl rfl
   have fin:∃K:List (List Int),WebOk n K/\gZ (ye (c9 il (mV 3) (mK (.int 1))) (c9 yN (aW b7 (mV 2) (mK (.int 0))) (mK (.int 1)))) (bA 4 (eT (ae (aW b7 (mV 2) (mK (.int 0))) (ae (aM (mH (aW b7 (mV 4) (mK (.int 1))) (oN) (oS (aW jc (cN dW (aW b7 (mV 4) (mK (.int 1)))) (mK (.int 2)))))) (ak))))) (cG) [ar (.lst k),ar (.int g),ar (ah n E),ar (.int j),ar (ah n T)]=aC (.nx [ar (.lst k),ar (.int g),ar (ah n E),ar (.int j),ar (ah n K)]):=by
    by_cases hq:(decide (j=1) && decide (1<(n:Int)))=b_
    ·have hlen:cN dW (aW b7 (mV 4) (mK (.int 1))) [ar (.lst k),ar (.int g),ar (ah n E),ar (.int j),ar (ah n T)]=aC (.int T.length):=by
      refine(eB (x:=.tup (T.map tupI)) rfl).trans ?_;show aC (D.int (T.map tupI).length)=_;rw[Mq]
     have L:aW jc (cN dW (aW b7 (mV 4) (mK (.int 1)))) (mK (.int 2)) [ar (.lst k),ar (.int g),ar (ah n E),ar (.int j),ar (ah n T)]=aC (.int ((T.length / 2:Nat):Int)):=(b9 (y:=.int 2) hlen rfl).trans (show jc (.int T.length) (.int 2)=_ from if_pos (e:=M.fail) (show xr T.length 2 from⟨by decide,by decide⟩))
     have I:aM (mH (aW b7 (mV 4) (mK (.int 1))) (oN) (oS (aW jc (cN dW (aW b7 (mV 4) (mK (.int 1)))) (mK (.int 2))))) [ar (.lst k),ar (.int g),ar (ah n E),ar (.int j),ar (ah n T)]=aC (.tup ((T.take (T.length / 2)).map tupI)):=by
      refine iZ ?_;show(aW b7 (mV 4) (mK (.int 1)) _>>=fun x=>oN _>>=fun lo=>oS _ _>>=fun hi=>qk x lo hi)=_;rw[show aW b7 (mV 4) (mK (.int 1)) [ar (.lst k),ar (.int g),ar (ah n E),ar (.int j),ar (ah n T)]=aC (.tup (T.map tupI))from rfl,au,show ∀ ρ,oN ρ=aC none from fun _=>rfl,au,oV L,au];show bK (S3.cutD (T.map tupI) none (ar ((T.length / 2:Nat):Int)))=_;rw[Kc, <-QP];unfold bK;exact if_pos (by rw[Mq,NI];have:=R.few;unfold lim;omega)
     exact⟨T.take (T.length / 2),R.sub (Qa _ _),(bb W).trans ((if_pos hq).trans (gF (II (x:=.int n) rfl I)))⟩
    ·exact⟨T,R,(bb W).trans ((if_neg hq).trans rfl)⟩
   obtain⟨N,h,U⟩:=fin;exact⟨n,N,Z,(aS (bN v)).trans ((aS (bN e2)).trans ((aS (bN G)).trans ((aS s0).trans ((aS (bN B)).trans ((MT (aV U) Z).trans (gr (rl (x:=ah n E) (S1:=Z) rfl rfl))))))),t,h,F.trans P⟩
 obtain⟨n',E',T,hm,Y,O,kT⟩:=key;have J:eU 0 (.tup [ah n E,ah n' E'])=true:=by
  unfold eU b8 b8 b8;rw[rA,rA];rfl
 obtain⟨S1,q,a⟩:=wU (c:=eY [.lst k]) hs (fW (o:=.ret (.tup [ah n E,ah n' E'])) hm rfl) kT J;exact⟨n,E,n',E',S1,q,t,w,Y,O,a⟩
end
theorem Ah{k:Nat}{x:D}{b:Bool}(X:F8 (mV 1) "tuple" "list" [ar x,ar x]=aC (.bl dV))(Y:il x x=aC (.bl b_))(Z:∀i,i<2->fH (mV i) "bool" [ar x,ar x]=aC (.bl b)):cO (k+1) [x,x]=aC (.bl b_):=by
 refine cZ (o:=.ret (.bl b_)) ?_ rfl;show dj _ [ar x,ar x]=_;unfold dj;refine(aV ((bb (b:=dV) (ig X)).trans (if_neg (by decide)))).trans (eN ?_)
 show(aW il (mV 0) (mV 1) _>>=_)=_;rw[b9 (x:=x) (y:=x) rfl rfl,Y,au];rw[show lG (D.bl b_)=aC b_ from rfl,au,if_pos rfl,b9 (Z 0 (by decide)) (Z 1 (by decide)),LD]
theorem FO{b:Bool}:dP [.bl b,.bl b]=aC (.bl b_):=Ah (k:=5) (b:=b_) rfl LD fun i hi=>by
 match i,hi with
 |0,_=>rfl
 |1,_=>rfl
theorem IJ:il .non .non=aC (.bl b_):=bp fun S=>by
 unfold il;exact(dY (show gS S 60 .non=ar .none from rfl) rfl).mpr ⟨by simp[gg],rfl⟩
theorem D3{o:Option (List Int)}(h:∀z,o=ar z->z.length<=1000):dP [fX o,fX o]=aC (.bl b_):=by
 cases o with
 | none=>exact Ah (k:=5) (b:=dV) rfl IJ fun i hi=>(match i,hi with
   |0,_=>rfl
   |1,_=>rfl)
 | some z=>
  exact Dy (k:=5) (by rw[Mq];exact h z rfl) fun x Z=>by
   obtain⟨i,_,rfl⟩:=MJ.mp Z;exact same_int
section
variable {n n':Nat}{E E':List (List Int)}{a0 a1 a2 a5 a6 a7 a8 a9 a10:Option D}{k:Nat}{its:List D}
theorem Gr{d:D}(Y:n<=7)(w:WebOk n E)(Z:n'<=7)(X:WebOk n' E')(h:Th d):qY [a0,a1,a2,ar (ah n E),ar (ah n' E'),a5,a6,a7,ar d,a9,a10]=aC (.nx [a0,a1,a2,ar (ah n E),ar (ah n' E'),a5,a6,a7,ar d,a9,a10]):=by
 have U:=iZ (e:=aw dm (ae (mV 3) (ae (mV 4) (ae (mV 8) ak)))) (ρ:=[a0,a1,a2,ar (ah n E),ar (ah n' E'),a5,a6,a7,ar d,a9,a10]) ((kf (x:=ah n E) (y:=ah n' E') (z:=d) rfl rfl rfl).trans (FJ Y w Z X h));have W:=iZ (e:=aw eF (ae (mV 3) (ae (mV 4) (ae (mV 8) ak)))) (ρ:=[a0,a1,a2,ar (ah n E),ar (ah n' E'),a5,a6,a7,ar d,a9,a10]) ((kf (x:=ah n E) (y:=ah n' E') (z:=d) rfl rfl rfl).trans (IF Y h));exact(bb (not_eq (ig (iZ ((call2 U W).trans FO))))).trans (if_neg (by decide))
theorem Kq{S:aF}{z:List Int}(hs:d9 S k)(U:n<=7)(w:WebOk n E)(Z:n'<=7)(W:WebOk n' E')(Y:z.length<=7):∃y8 S1,nE [a0,a1,ar (.lst k),ar (ah n E),ar (ah n' E'),a5,a6,ar (tupI z),a8,a9,a10] S=ar (.ok (.nx [a0,a1,ar (.lst k),ar (ah n E),ar (ah n' E'),a5,a6,ar (tupI z),y8,a9,a10]),S1)/\Kp k S S1/\S1.length=S.length:=by
 obtain⟨d,S1,e1,R,cd,k1,X⟩:=FM hs Y;have Q:aM (aw di (ae (mV 2) (ae (mV 7) ak))) [a0,a1,ar (.lst k),ar (ah n E),ar (ah n' E'),a5,a6,ar (tupI z),a8,a9,a10] S=ar (.ok d,S1):=by
  unfold aM;rw[call2 (x:=.lst k) (y:=tupI z) rfl rfl];exact e1
 have T:aM (bh (ae (mV 7) (ae (aM (aw di (ae (mV 2) (ae (mV 7) ak)))) ak))) [a0,a1,ar (.lst k),ar (ah n E),ar (ah n' E'),a5,a6,ar (tupI z),a8,a9,a10] S=ar (.ok (.fz [tupI z,d]),S1):=vf (og (S1:=S1) (ys:=[tupI z,d]) (cA (S1:=S) rfl (cA Q rfl)) pq) k1 X (by unfold b8 b8 b8;rw[vd,cd];rfl)
 have hi:ft (aM (bh (ae (mV 7) (ae (aM (aw di (ae (mV 2) (ae (mV 7) ak)))) ak)))) [a0,a1,ar (.lst k),ar (ah n E),ar (ah n' E'),a5,a6,ar (tupI z),a8,a9,a10] S=ar (.ok ⟨[tupI z,d],.none⟩,S1):=by
  unfold ft;rw[aO T];rfl
 refine⟨ar d,S1,zN hi ?_,k1,X⟩;rw[j8 rfl (MT (Gr U w Z W ((yx Y).th (by decide))) S1),j8 rfl (MT (Gr U w Z W R) S1),gO];rfl
theorem D4(W:n<=7)(w:WebOk n E)(Z:n'<=7)(X:WebOk n' E'):∀(zs:List (List Int)) (a7 a8:Option D) (S:aF),(∀z∈zs,z.length<=7)->d9 S k->∃y7 Y S1,eL ⟨its,.none⟩ (gN 7) nE (zs.map tupI) [a0,a1,ar (.lst k),ar (ah n E),ar (ah n' E'),a5,a6,a7,a8,a9,a10] S=ar (.ok (.nx [a0,a1,ar (.lst k),ar (ah n E),ar (ah n' E'),a5,a6,y7,Y,a9,a10]),S1)/\Kp k S S1/\S1.length=S.length
 |[],a7,a8,S,_,hs=>⟨a7,a8,S,by rw[NR,gO];rfl,.refl hs,rfl⟩
 |z::zs,a7,a8,S,h,hs=>by
  obtain⟨Y,S1,e1,k1,Q⟩:=Kq (a0:=a0) (a1:=a1) (a5:=a5) (a6:=a6) (a8:=a8) (a9:=a9) (a10:=a10) hs W w Z X (h z (.head _));obtain⟨R,T,S2,e2,k2,U⟩:=D4 W w Z X zs (ar (tupI z)) Y S1 (fun y P=>h y (.tail _ P)) k1.st;exact⟨R,T,S2,(j8 rfl e1).trans e2,k1.trans k2,U.trans Q⟩
end
theorem Dr.rowsL{m:Nat}:∀{ds ys:List D},Dr (fun _ y=>∃z:List Int,y=tupI z/\z.length<=m) ds ys->∃zs:List (List Int),ys=zs.map tupI/\∀z∈zs,z.length<=m
 |_,_,.nil=>⟨[],rfl,fun z h=>by cases h⟩
 |_,_,.skip h=>Dr.rowsL h
 |_,_,.put ⟨z,e,l⟩ h=>by
  obtain⟨zs,e2,Y⟩:=Dr.rowsL h;subst e e2;exact⟨z::zs,rfl,fun y Z=>by rcases MK.mp Z with rfl|Z;exact l;exact Y y Z⟩
theorem FP{S:aF}{k n:Nat}{E:List (List Int)}{a0 a1:Option D}{r:List (Option D)}(hs:d9 S k)(Q:n<=7):∃(zs:List (List Int)) (S1:aF),aM (bC (ki (mK (.int 2))) (gN 0) nB nD [none,ar 2,ar 3]) (a0::a1::ar (.lst k)::ar (ah n E)::r) S=ar (.ok (.fz (zs.map tupI)),S1)/\(∀z∈zs,z.length<=7)/\zs.length<=2/\Kp k S S1/\S1.length=S.length:=by
 obtain⟨ys,S2,e,Y,k2,X⟩:=Bj (mi:=ki (mK (.int 2))) (g:=gN 0) (t:=nB) (m:=nD) (js:=[none,ar 2,ar 3]) (ρ:=a0::a1::ar (.lst k)::ar (ah n E)::r) (k:=k) (its:=(eb 2).map fun i:Nat=>D.int (i:Int)) (fun ρ=>∃x,ρ=[x,ar (.lst k),ar (ah n E)]) (fun _ y=>∃z:List Int,y=tupI z/\z.length<=7) (vh (n:=2) rfl (by decide)) (by decide) ⟨none,rfl⟩ hs (fun d y ⟨z,e,_⟩=>by subst e;exact vd z)
  (fun d hd ρ S ⟨x,hρ⟩ hs=>by
   subst hρ;refine⟨[ar d,ar (.lst k),ar (ah n E)],b_,S,rfl,⟨_,rfl⟩,rfl,.refl hs,rfl,fun _=>?_⟩;obtain⟨zs,S1,e1,T,k1,W⟩:=rC (n:=n) (ρ:=[ar d,ar (.lst k),ar (ah n E)]) (e1:=mV 1) (e2:=aW b7 (mV 2) (mK (.int 0))) hs (by omega) rfl rfl
   have U:zs.length=n:=by rw[T.length_eq];unfold fG;simp
   refine⟨tupI zs,S1,(tH e1).trans ?_,⟨zs,rfl,by omega⟩,k1,W⟩
   rw[rk (by rw[Mq];unfold lim;omega)];rfl)
 have Z:=Y.len;obtain⟨zs,rfl,R⟩:=Y.rowsL;exact⟨zs,S2,e,R,by rw[Mq]at Z;exact Z,k2,X⟩
theorem w6{ρ:aP}{e:TM}{m:Nat}(h:e ρ=aC (.fz [.int 12,.int m,.int 7])){E:List (List Int)}(Z:mV 9 ρ=aC (ah m E)):c9 fV e (aM (bh (ae (mK (.int 12)) (ae (aW b7 (mV 9) (mK (.int 0))) (ae (mK (.int 7)) (ak)))))) ρ=aC false:=by
 refine bM h ?_ LH;refine things (aQ (e:=mK (.int 12)) (x:=.int 12) rfl (aQ (x:=.int m) ((b9 (y:=.int 0) Z rfl).trans rfl) (aQ (e:=mK (.int 7)) (x:=.int 7) rfl (es:=ak) rfl))) rfl (by show 3<=50;decide)
theorem IK{S:aF}{ns:List Int}{i:Nat}{o2 o3 o4 o5 o6 o7 o8 o9 o10:Option D}:∃x2 x3 x4 x5 x6 x7 x8 x9 x10 S1,kQ [ar (.ro (ns.map D.int)),ar (.int i),o2,o3,o4,o5,o6,o7,o8,o9,o10] S=ar (.ok (.nx [ar (.ro (ns.map D.int)),ar (.int i),x2,x3,x4,x5,x6,x7,x8,x9,x10]),S1):=by
 obtain⟨_,_,C,xs,rfl,rfl,hs⟩:=Fk (S:=S) (ns:=ns) (k:=i) (Q:=fun d j=>∃xs,d= .lst S.length/\j=S++[xs]/\d9 (S++[xs]) S.length) fun xs h=>⟨xs,rfl,rfl,h⟩;generalize S++[xs]=T0 at C hs;generalize S.length=k at C hs;obtain⟨n,E,n',E',K,e1,J,w,O,u,k1,l1⟩:=FN hs;have v:aM (aw fB (ae (mV 3) (ae (mV 4) ak))) [ar (.ro (ns.map D.int)),ar (.int i),ar (.lst k),ar (ah n E),ar (ah n' E'),o5,o6,o7,o8,o9,o10]=aC (if n=n' then fX (km n E E' n [[]]).head? else .non):=by
  unfold aM;rw[call2 (x:=ah n E) (y:=ah n' E') rfl rfl];exact DQ J
 have P:∃o:Option (List Int),(if n=n' then fX (km n E E' n [[]]).head? else D.non)=fX o/\∀z,o=ar z->z.length<=7:=by
  by_cases h:n=n'
  ·rw[if_pos h];refine⟨_,rfl,fun z X=>?_⟩;obtain⟨_,hl⟩:=rE n 0 [[]] (fun r hr=>by rw[NH.mp hr];exact⟨.nil,rfl⟩) z (List.mem_of_mem_head? X)
   omega
  ·rw[if_neg h];exact⟨none,rfl,fun z X=>by cases X⟩
 obtain⟨o,ho,U⟩:=P;have p:=w5 J w O u;rw[ho]at v p;have s3:gZ (dM (bV (aM (aw dP (ae (aM (aw eZ (ae (mV 3) (ae (mV 4) (ak))))) (ae (mV 5) (ak))))))) (bz (mK (.bl dV))) (cG) [ar (.ro (ns.map D.int)),ar (.int i),ar (.lst k),ar (ah n E),ar (ah n' E'),ar (fX o),o6,o7,o8,o9,o10]=aC (.nx [ar (.ro (ns.map D.int)),ar (.int i),ar (.lst k),ar (ah n E),ar (ah n' E'),ar (fX o),o6,o7,o8,o9,o10]):=
  (bb (not_eq (ig (iZ ((call2 (iZ ((call2 (x:=ah n E) (y:=ah n' E') rfl rfl).trans p)) rfl).trans (D3 fun z X=>ME (U z X) (by decide))))))).trans (if_neg (by decide))
 obtain⟨zs,s,e2,X,lz,k2,l2⟩:=FP (E:=E) (a0:=ar (.ro (ns.map D.int))) (a1:=ar (.int i)) (r:=[ar (ah n' E'),ar (fX o),o6,o7,o8,o9,o10]) k1.st J;have F:∃ws:List (List Int),gZ (c9 (JJ (!·)) (mV 5) (mK .non)) (bA 6 (aM (aW bI (mV 6) (aM (bh (ae (mV 5) (ae (mV 5) (ak)))))))) (cG) [ar (.ro (ns.map D.int)),ar (.int i),ar (.lst k),ar (ah n E),ar (ah n' E'),ar (fX o),ar (.fz (zs.map tupI)),o7,o8,o9,o10]=aC (.nx [ar (.ro (ns.map D.int)),ar (.int i),ar (.lst k),ar (ah n E),ar (ah n' E'),ar (fX o),ar (.fz (ws.map tupI)),o7,o8,o9,o10])/\∀z∈ws,z.length<=7:=by
  cases o with
  |none=>exact⟨zs,(bb (bM (x:=.non) (y:=.non) (b:=dV) rfl rfl rfl)).trans ((if_neg (by decide)).trans rfl),X⟩
  | some z=>
   refine⟨zs++[z,z],(bb (bM (x:=tupI z) (y:=.non) (b:=b_) rfl rfl rfl)).trans ((if_pos rfl).trans (gF ?_)),fun y T=>?_⟩
   ·have B:aM (bh (ae (mV 5) (ae (mV 5) ak))) [ar (.ro (ns.map D.int)),ar (.int i),ar (.lst k),ar (ah n E),ar (ah n' E'),ar (fX (ar z)),ar (.fz (zs.map tupI)),o7,o8,o9,o10]=aC (.fz ([z,z].map tupI)):=things (aQ (x:=tupI z) rfl (aQ (x:=tupI z) rfl (es:=ak) rfl)) (eE [z,z]) (by show 2<=50;decide)
    show iG (aW bI (mV 6) _ _)=_;rw[b9 (x:=.fz (zs.map tupI)) rfl B];show iG (bD (zs.map tupI++[z,z].map tupI))=_;rw[<-NC];exact bF (eE _) (by rw[Mq,Mu];show zs.length+2<=lim;unfold lim;omega)
   ·rcases NQ.mp T with T|T
    ·exact X y T
    ·have:y=z:=by simpa using T
     rw[this];exact U z rfl
 obtain⟨ws,F,H⟩:=F;obtain⟨Z,Y,f,e3,k3,l3⟩:=D4 (a0:=ar (.ro (ns.map D.int))) (a1:=ar (.int i)) (a5:=ar (fX o)) (a6:=ar (.fz (ws.map tupI))) (a9:=o9) (a10:=o10) (its:=ws.map tupI) J w O u ws o7 o8 s H k2.st;obtain⟨m,G,T4,e4,m8,W,I,k4,l4⟩:=DG k3.st;obtain⟨d,L,e5,l,A,k5,l5⟩:=IH k4.st;have s8:ae (aM (aw cn (ae (mV 2) (ak)))) (ae (aM (aw dF (ae (mV 2) (ak)))) (ak)) [ar (.ro (ns.map D.int)),ar (.int i),ar (.lst k),ar (ah n E),ar (ah n' E'),ar (fX o),ar (.fz (ws.map tupI)),Z,Y,o9,o10] f=ar (.ok [ah m G,d],L):=by
  refine cA (S1:=T4) ?_ (cA (S1:=L) ?_ rfl)
  ·unfold aM;rw[e9 (x:=.lst k) rfl];exact e4
  ·unfold aM;rw[e9 (x:=.lst k) rfl];exact e5
 have r1:=nI (y:=.non) (show bq [ah n E,ah m G]=M.raise (great m) by rw[mapped (by omega) w W I,if_neg (by omega),if_pos (by omega)])
 have r2:=nI (y:=.non) (show bq [ah m G,ah n E]=M.raise (great m) by rw[mapped W I (by omega) w,if_pos (by omega)])
 have g:=nI (y:=.non) (FF W I l A);have r4:=nI (e:=ah m G) (y:=.non) (FE l A);have N:∀{t:jF} {q:cV},t [ar (.ro (ns.map D.int)),ar (.int i),ar (.lst k),ar (ah n E),ar (ah n' E'),ar (fX o),ar (.fz (ws.map tupI)),Z,Y,ar (ah m G),ar d]=aC dV->gZ t (bz (mK (.bl dV))) q [ar (.ro (ns.map D.int)),ar (.int i),ar (.lst k),ar (ah n E),ar (ah n' E'),ar (fX o),ar (.fz (ws.map tupI)),Z,Y,ar (ah m G),ar d]=q [ar (.ro (ns.map D.int)),ar (.int i),ar (.lst k),ar (ah n E),ar (ah n' E'),ar (fX o),ar (.fz (ws.map tupI)),Z,Y,ar (ah m G),ar d]:=fun h=>(bb h).trans (if_neg (by decide))
 have q1:=w6 (u9 (js:=[3,9]) (ρ:=[ar (.ro (ns.map D.int)),ar (.int i),ar (.lst k),ar (ah n E),ar (ah n' E'),ar (fX o),ar (.fz (ws.map tupI)),Z,Y,ar (ah m G),ar d]) (ds:=[ah n E,ah m G]) (m:=qZ) (R:=bc) rfl (Eb ((call2 rfl rfl).trans r1.1)) tT) rfl;have q2:=w6 (u9 (js:=[9,3]) (ρ:=[ar (.ro (ns.map D.int)),ar (.int i),ar (.lst k),ar (ah n E),ar (ah n' E'),ar (fX o),ar (.fz (ws.map tupI)),Z,Y,ar (ah m G),ar d]) (ds:=[ah m G,ah n E]) (m:=rf) (R:=bc) rfl (Eb ((kf rfl rfl rfl).trans r2.2)) tT) rfl;have q3:=bM (u9 (js:=[9,10]) (ρ:=[ar (.ro (ns.map D.int)),ar (.int i),ar (.lst k),ar (ah n E),ar (ah n' E'),ar (fX o),ar (.fz (ws.map tupI)),Z,Y,ar (ah m G),ar d]) (ds:=[ah m G,d]) (m:=rg) (R:=bc) rfl (Eb ((call2 rfl rfl).trans g.1)) Ae) DA Ka;have q4:=bM (u9 (js:=[10,9]) (ρ:=[ar (.ro (ns.map D.int)),ar (.int i),ar (.lst k),ar (ah n E),ar (ah n' E'),ar (fX o),ar (.fz (ws.map tupI)),Z,Y,ar (ah m G),ar d]) (ds:=[d,ah m G]) (m:=rh) (R:=bc) rfl (Eb ((kf rfl rfl rfl).trans r4.2)) Ae) DA Ka;refine⟨ar (.lst k),ar (ah n E),ar (ah n' E'),ar (fX o),ar (.fz (ws.map tupI)),Z,Y,ar (ah m G),ar d,L,?_⟩;unfold kQ;have c:qJ (aM (aw eY (ae (mV 2) (ak)))) (gR 2 (bS (gN 3) (bS (gN 4) (ie)))) [ar (.ro (ns.map D.int)),ar (.int i),ar (.lst k),o3,o4,o5,o6,o7,o8,o9,o10] T0=ar (.ok (.nx [ar (.ro (ns.map D.int)),ar (.int i),ar (.lst k),ar (ah n E),ar (ah n' E'),o5,o6,o7,o8,o9,o10]),K):=by
  show(aM _ _>>=_) T0=_;rw[aO (a:=.tup [ah n E,ah n' E']) (S1:=K)]
  ·rfl
  ·unfold aM;rw[e9 (x:=.lst k) rfl];exact e1
 refine(aS (ρ':=[ar (.ro (ns.map D.int)),ar (.int i),ar (.lst k),o3,o4,o5,o6,o7,o8,o9,o10]) (S1:=T0) (bN (x:=.lst k) ?_)).trans ((aS c).trans ((MT (aV (gF v)) K).trans ((MT (aV s3) K).trans ((aS (bN e2)).trans ((MT (aV F) s).trans ((aS (n8 rfl e3)).trans ((aS (DC s8)).trans (MT ((aV (N q1)).trans ((aV (N q2)).trans ((aV (N q3)).trans (N q4)))) L))))))));rw[call2 (x:=.ro (ns.map D.int)) (y:=.int i) rfl rfl];exact C
theorem w8{its:List D}{ns:List Int}:∀(ts:List Nat) (o1 o2 o3 o4 o5 o6 o7 o8 o9 o10:Option D) (S:aF),∃ ρ S1,eL ⟨its,.none⟩ (gN 1) kQ (ts.map fun i:Nat=>.int (0+(i:Int))) [ar (.ro (ns.map D.int)),o1,o2,o3,o4,o5,o6,o7,o8,o9,o10] S=ar (.ok (.nx ρ),S1)
 |[],o1,o2,o3,o4,o5,o6,o7,o8,o9,o10,S=>⟨_,S,by rw[NR,gO];rfl⟩
 |t::ts,o1,o2,o3,o4,o5,o6,o7,o8,o9,o10,S=>by
  obtain⟨U,T,x4,x5,x6,x7,X,W,Z,S1,h⟩:=IK (S:=S) (ns:=ns) (i:=t) (o2:=o2) (o3:=o3) (o4:=o4) (o5:=o5) (o6:=o6) (o7:=o7) (o8:=o8) (o9:=o9) (o10:=o10);obtain⟨ρ,S2,Y⟩:=w8 (its:=its) (ns:=ns) ts (ar (.int t)) U T x4 x5 x6 x7 X W Z S1;refine⟨ρ,S2,?_⟩;rw[MU,Pi];exact(j8 rfl h).trans Y
theorem FQ{s:List Int}:il (tupI s) (tupI s)=aC (.bl b_):=bp fun S=>by
 unfold il;refine(dY (iB s) (iB s)).mpr ⟨?_,rfl⟩;have:gg (j9 s) (j9 s)=decide (s=s):=by
  unfold j9 gg;exact nH s s
 rw[this,MF rfl]
theorem last_eq:(km 7 [[0,1]] [[5,6]] 7 [[]]).head? =ar [5,6,0,1,2,3,4]:=by decide+kernel
theorem L7{a b:Int}(Z:0<=a)(Y:a<b)(X:b<7):WebOk (7:Nat) [[a,b]]:=⟨fun t W=>by rw[NH.mp W];exact⟨a,b,rfl,Z,Y,X⟩,Qt _ _,by show 1<=21;decide⟩
theorem Kr{S:aF}{ns:List Int}:runs (tF [.ro (ns.map D.int)]) S (fun d _=>d= .bl b_):=by
 have hm:aw minD (ae (cN dW (mV 0)) (ae (mK (.int 4)) ak)) [ar (.ro (ns.map D.int)),none,none,none,none,none,none,none,none,none,none]=aC (.int (if (4:Int)<(ns.map D.int).length then 4 else (ns.map D.int).length)):=(call2 (x:=.int (ns.map D.int).length) (y:=.int 4) rfl rfl).trans rfl;have X:aw maxD (ae (mK (.int 1)) (ae (aw minD (ae (cN dW (mV 0)) (ae (mK (.int 4)) ak))) ak)) [ar (.ro (ns.map D.int)),none,none,none,none,none,none,none,none,none,none]=aC (.int (if (if (4:Int)<(ns.map D.int).length then (4:Int)else (ns.map D.int).length)>1 then (if (4:Int)<(ns.map D.int).length then 4 else (ns.map D.int).length)else 1)):=(call2 (x:=.int 1) rfl hm).trans rfl;generalize hn:(if (if (4:Int)<(ns.map D.int).length then (4:Int)else (ns.map D.int).length)>1 then (if (4:Int)<(ns.map D.int).length then (4:Int)else (ns.map D.int).length)else 1)=n at X;have W:n<=8:=by rw[<-hn];split<;>split<;>omega
 have U:1<=n:=by rw[<-hn];split<;>split<;>omega
 have hi:=(uS X).trans (Dn (by omega))
 obtain⟨ρ,S1,hf⟩:=w8 (its:=bu 0 n.toNat) (ns:=ns) (eb n.toNat) none none none none none none none none none none S;have Y:=w5 (n:=7) (n':=7) (by decide) (L7 (a:=0) (b:=1) (by decide) (by decide) (by decide)) (by decide) (L7 (a:=5) (b:=6) (by decide) (by decide) (by decide))
 rw[if_pos rfl,last_eq]at Y;have Z:aW il (aM (aw eZ (ae (mK (.tup [.int 7,.tup [.tup [.int 0,.int 1]]])) (ae (mK (.tup [.int 7,.tup [.tup [.int 5,.int 6]]])) (ak))))) (mK (.tup [.int 5,.int 6,.int 0,.int 1,.int 2,.int 3,.int 4])) ρ=aC (.bl b_):=(b9 (iZ ((call2 (x:=ah 7 [[0,1]]) (y:=ah 7 [[5,6]]) rfl rfl).trans Y)) (y:=tupI [5,6,0,1,2,3,4]) rfl).trans FQ;refine⟨.bl b_,S1,fW (o:=.ret (.bl b_)) ?_ rfl,rfl⟩;unfold Dl;exact(aS (n8 hi hf)).trans (MT (eN Z) S1)
def top(i:Nat):Stmt:=PySem.Challenge.pw_tiewebs_k03_maps_known.main.body.getD i (.Pass ⟨0,0,0,0⟩)
structure Txt(K:d_)(mg:Str->Option a_):Prop where
 err:gT K=b_
 dk:Fc K=b_
 b_ValueError:mg "ValueError"=none
 b_all:mg "all"=none
 b_bool:mg "bool"=none
 b_enumerate:mg "enumerate"=none
 b_int:mg "int"=none
 b_isinstance:mg "isinstance"=none
 b_len:mg "len"=none
 b_list:mg "list"=none
 b_max:mg "max"=none
 b_min:mg "min"=none
 b_range:mg "range"=none
 b_set:mg "set"=none
 b_sorted:mg "sorted"=none
 b_tuple:mg "tuple"=none
 b_zip:mg "zip"=none
 g_MOST_MAPPED:∃t,mg "MOST_MAPPED"=ar (.int 7 t)
 g_MOST_PLACES:∃t,mg "MOST_PLACES"=ar (.int 14 t)
theorem xa:FnScope ["thing"] ["thing"] (av (top 17)):=⟨rfl,rfl,rfl,by decide+kernel,rfl,by decide+kernel,by decide+kernel⟩
theorem yy:FnScope ["thing"] ["thing"] (av (top 18)):=⟨rfl,rfl,rfl,by decide+kernel,rfl,by decide+kernel,by decide+kernel⟩
theorem vm:FnScope ["things"] ["things"] (av (top 21)):=⟨rfl,rfl,rfl,by decide+kernel,rfl,by decide+kernel,by decide+kernel⟩
theorem xb:FnScope ["web","one","other"] ["web","one","other"] (av (top 25)):=⟨rfl,rfl,rfl,by decide+kernel,rfl,by decide+kernel,by decide+kernel⟩
theorem pA:FnScope ["_law_script","_law_k"] ["_law_script","_law_k"] (av (top 35)):=⟨rfl,rfl,rfl,by decide+kernel,rfl,by decide+kernel,by decide+kernel⟩
theorem iD:FnScope ["_law_state_here","_law_many","_law_found","_law_stirred"] ["_law_state_here","_law_many"] (av (top 37)):=⟨rfl,rfl,rfl,by decide+kernel,rfl,by decide+kernel,by decide+kernel⟩
theorem jx:FnScope ["_law_many","_law_found","_law_a"] ["_law_many"] (av (top 38)):=⟨rfl,rfl,rfl,by decide+kernel,rfl,by decide+kernel,by decide+kernel⟩
theorem sm:FnScope ["_law_web_here","_law_names"] ["_law_web_here","_law_names"] (av (top 42)):=⟨rfl,rfl,rfl,by decide+kernel,rfl,by decide+kernel,by decide+kernel⟩
theorem vo:FnScope ["_law_web_here","_law_one","_law_other"] ["_law_web_here","_law_one","_law_other"] (av (top 43)):=⟨rfl,rfl,rfl,by decide+kernel,rfl,by decide+kernel,by decide+kernel⟩
theorem sr:FnScope ["_law_thing"] ["_law_thing"] (av (top 44)):=⟨rfl,rfl,rfl,by decide+kernel,rfl,by decide+kernel,by decide+kernel⟩
theorem xc:FnScope ["many","thing"] ["many","thing"] (av (top 19)):=⟨rfl,rfl,rfl,by decide+kernel,rfl,by decide+kernel,by decide+kernel⟩
theorem rN:FnScope ["one","other","start","place","at"] ["one","other","start","place"] (av (top 30)):=⟨rfl,rfl,rfl,by decide+kernel,rfl,by decide+kernel,by decide+kernel⟩
theorem lW:FnScope ["_law_script","_law_k","_law_cell"] ["_law_script","_law_k"] (av (top 36)):=⟨rfl,rfl,rfl,by decide+kernel,rfl,by decide+kernel,by decide+kernel⟩
theorem gu:FnScope ["_law_state_here","_law_things","_law_left","_law_found"] ["_law_state_here","_law_things"] (av (top 39)):=⟨rfl,rfl,rfl,by decide+kernel,rfl,by decide+kernel,by decide+kernel⟩
theorem cF:FnScope ["_law_state_here","_law_many","_law_ties","_law_turn","_law_one","_law_other"] ["_law_state_here"] (av (top 41)):=⟨rfl,rfl,rfl,by decide+kernel,rfl,by decide+kernel,by decide+kernel⟩
theorem kg:FnScope ["_law_state_here","_law_some"] ["_law_state_here"] (av (top 45)):=⟨rfl,rfl,rfl,by decide+kernel,rfl,by decide+kernel,by decide+kernel⟩
theorem kU:FnScope ["_law_one","_law_other","_law_thing","_law_b"] ["_law_one","_law_other","_law_thing"] (av (top 48)):=⟨rfl,rfl,rfl,by decide+kernel,rfl,by decide+kernel,by decide+kernel⟩
theorem cT:FnScope ["_law_one","_law_other","_law_found","_law_b","_law_longer","_law_row","_law_place","_law_wrong"] ["_law_one","_law_other"] (av (top 49)):=⟨rfl,rfl,rfl,by decide+kernel,rfl,by decide+kernel,by decide+kernel⟩
theorem gv:FnScope ["_law_state_here","_law_row","_law_at","_law_to","_law_odd","_law_some"] ["_law_state_here","_law_row"] (av (top 50)):=⟨rfl,rfl,rfl,by decide+kernel,rfl,by decide+kernel,by decide+kernel⟩
theorem oy:FnScope ["many","thing","low","high"] ["many","thing"] (av (top 20)):=⟨rfl,rfl,rfl,by decide+kernel,rfl,by decide+kernel,by decide+kernel⟩
theorem dq:FnScope ["_law_state_here","_law_most","_law_many","_law_way","_law_ties","_law_row","_law_at","_law_odd"] ["_law_state_here","_law_most"] (av (top 40)):=⟨rfl,rfl,rfl,by decide+kernel,rfl,by decide+kernel,by decide+kernel⟩
theorem oz:FnScope ["thing","many","ties"] ["thing"] (av (top 22)):=⟨rfl,rfl,rfl,by decide+kernel,rfl,by decide+kernel,by decide+kernel⟩
theorem fC:FnScope ["_law_state_here","_law_most","_law_one","_law_way","_law_other"] ["_law_state_here"] (av (top 51)):=⟨rfl,rfl,rfl,by decide+kernel,rfl,by decide+kernel,by decide+kernel⟩
theorem xf:FnScope ["thing"] ["thing"] (av (top 23)):=⟨rfl,rfl,rfl,by decide+kernel,rfl,by decide+kernel,by decide+kernel⟩
theorem mD:FnScope ["web","most"] ["web","most"] (av (top 24)):=⟨rfl,rfl,rfl,by decide+kernel,rfl,by decide+kernel,by decide+kernel⟩
theorem mE:FnScope ["web","many","ties"] ["web"] (av (top 26)):=⟨rfl,rfl,rfl,by decide+kernel,rfl,by decide+kernel,by decide+kernel⟩
theorem rO:FnScope ["one","other"] ["one","other"] (av (top 29)):=⟨rfl,rfl,rfl,by decide+kernel,rfl,by decide+kernel,by decide+kernel⟩
theorem vp:FnScope ["_law_found","_law_due"] ["_law_found","_law_due"] (av (top 46)):=⟨rfl,rfl,rfl,by decide+kernel,rfl,by decide+kernel,by decide+kernel⟩
theorem nJ:FnScope ["one","other","thing","many"] ["one","other","thing"] (av (top 31)):=⟨rfl,rfl,rfl,by decide+kernel,rfl,by decide+kernel,by decide+kernel⟩
theorem eR:FnScope ["one","other","start","many","place","found"] ["one","other","start"] (av (top 32)):=⟨rfl,rfl,rfl,by decide+kernel,rfl,by decide+kernel,by decide+kernel⟩
theorem Bp:FnScope ["one","other"] ["one","other"] (av (top 33)):=⟨rfl,rfl,rfl,by decide+kernel,rfl,by decide+kernel,by decide+kernel⟩
theorem cb:FnScope ["_law_call","_law_error","e","_law_marks","_law_found"] ["_law_call"] (av (top 47)):=⟨rfl,rfl,rfl,by decide+kernel,rfl,by decide+kernel,by decide+kernel⟩
theorem ic:FnScope ["_law_script","_law_k","_law_state_here","_law_one","_law_other","_law_due","_law_rows","_law_row","_law_thing","_law_great","_law_bad"] ["_law_script"] (av (top 52)):=⟨rfl,rfl,rfl,by decide+kernel,rfl,by decide+kernel,by decide+kernel⟩
section
variable {P:eM}{w:fg}{K:d_}{mg:Str->Option a_}{base:gd}
theorem xg{f:dt}{U:gc}(F:Fun K "is_whole" "is_whole" (top 17) f U)(X:mg "is_whole"=ar (.ref f))(T:Txt K mg):DefX P w K mg base 1 "is_whole" ["thing"] cY:=
 bQ (m:=qS) F X (F.binds fun _ _ _ _ _ _ us Z=>match us,Z with|[_],_=>rfl) xa rfl fun Y A outer s H E S=>
  aN (aY (kC (gh (Ts:="int") T.b_isinstance T.b_int (aa 0)) (l9 (B5 (gh (Ts:="bool") T.b_isinstance T.b_bool (aa 0))))))
end
section
variable {P:eM}{w:fg}{K:d_}{mg:Str->Option a_}{base:gd}
theorem yz{f:dt}{U:gc}(F:Fun K "is_pair" "is_pair" (top 18) f U)(X:mg "is_pair"=ar (.ref f))(T:Txt K mg):DefX P w K mg base 1 "is_pair" ["thing"] dD:=
 bQ (m:=tD) F X (F.binds fun _ _ _ _ _ _ us Z=>match us,Z with|[_],_=>rfl) yy rfl fun Y A outer s H E S=>
  aN (aY (kC (gh (Ts:="tuple") T.b_isinstance T.b_tuple (aa 0)) (l9 (vR (eh S) (gf T.b_len (aa 0)) (az)))))
end
section
variable {P:eM}{w:fg}{K:d_}{mg:Str->Option a_}{base:gd}
theorem vt{f:dt}{U:gc}(F:Fun K "is_rising" "is_rising" (top 21) f U)(X:mg "is_rising"=ar (.ref f))(T:Txt K mg):DefX P w K mg base 1 "is_rising" ["things"] fY:=
 bQ (m:=oO) F X (F.binds fun _ _ _ _ _ _ us Z=>match us,Z with|[_],_=>rfl) vm rfl fun Y A outer s H E S=>
  aN (aY (nW rfl T.b_all (aE (dU (t:=iP) (m:=iQ) (kj (Nc:=["ahead","behind"]) (js:=[none,none]) (av (top 21)) ["things"] (fun _=>rfl) rfl (by decide+kernel)) rfl (zm T.b_zip (aa 0) (aE (dy (aa 0) (fi (az)) (fh)))) (fun C ex s2 R=>⟨jO rfl (cg (aZ 0 (show(["ahead","behind"]:List Str).Nodup by decide+kernel)) (cg (aZ 1 (show(["ahead","behind"]:List Str).Nodup by decide+kernel)) (ij))),gI,F4 (JR S) (aa 0) (aa 1)⟩)))))
end
section
variable {P:eM}{w:fg}{K:d_}{mg:Str->Option a_}{base:gd}
theorem xh{f:dt}{U:gc}(F:Fun K "are_tied" "are_tied" (top 25) f U)(X:mg "are_tied"=ar (.ref f))(T:Txt K mg):DefX P w K mg base 1 "are_tied" ["web","one","other"] eV:=
 bQ (m:=qT) F X (F.binds fun _ _ _ _ _ _ us Z=>match us,Z with|[_,_,_],_=>rfl) xb rfl fun Y A outer s H E S=>
  aN (aY (yP (eh S) (dw (af (nV rfl T.b_min (af (aa 1) (af (aa 2) (ai) ag) ag)) (af (qo rfl T.b_max (af (aa 1) (af (aa 2) (ai) ag) ag)) (ai) ba) ba)) (aU (aa 0) (az))))
end
section
variable {P:eM}{w:fg}{K:d_}{mg:Str->Option a_}{base:gd}
theorem pB{f:dt}{U:gc}(F:Fun K "_law_cell_at" "_law_cell_at" (top 35) f U)(X:mg "_law_cell_at"=ar (.ref f))(T:Txt K mg):DefX P w K mg base 1 "_law_cell_at" ["_law_script","_law_k"] dE:=
 bQ (m:=kO) F X (F.binds fun _ _ _ _ _ _ us Z=>match us,Z with|[_,_],_=>rfl) pA rfl fun Y A outer s H E S=>
  aA (cw (F5 (JR S) (aa 1) (gf T.b_len (aa 0))) (aN (aY (aU (aa 0) (aa 1)))) (bG)) (aN (aY (az)))
end
section
variable {P:eM}{w:fg}{K:d_}{mg:Str->Option a_}{base:gd}
theorem vv{f:dt}{U:gc}(F:Fun K "_law_take" "_law_take" (top 37) f U)(X:mg "_law_take"=ar (.ref f))(T:Txt K mg):DefX P w K mg base 1 "_law_take" ["_law_state_here","_law_many"] aJ:=
 bQ (m:=oQ) F X (F.binds fun _ _ _ _ _ _ us Z=>match us,Z with|[_,_],_=>rfl) iD rfl fun Y A outer s H E S=>
  aA (cw (fD (aU (aa 0) (az))) (aA (br 2 iD.nd (kI (aU (aa 0) (az)) (aa 1)) (hs:=ez)) (aA (ma (pF (aU (aa 0) (az)) (aa 1)) (yT (aa 0) (az))) (aN (aY (aa 2))))) (bG)) (aA (ma (kI (bW (qg (aU (aa 0) (az)) (az)) (az)) (az)) (yT (aa 0) (az))) (aA (br 3 iD.nd (kI (bW (bW (qg (aU (aa 0) (az)) (aU (aa 0) (az))) (qg (az) (aU (aa 0) (az)))) (az)) (az)) (hs:=ez)) (aA (br 3 iD.nd (kI (bW (qg (aa 3) (aa 3)) (qg (az) (aa 3))) (az)) (hs:=ez)) (aN (aY (kI (pF (aa 3) (az)) (aa 1)))))))
end
section
variable {P:eM}{w:fg}{K:d_}{mg:Str->Option a_}{base:gd}
theorem su{f:dt}{U:gc}(F:Fun K "_law_pairs" "_law_pairs" (top 38) f U)(X:mg "_law_pairs"=ar (.ref f))(T:Txt K mg):DefX P w K mg base 1 "_law_pairs" ["_law_many"] bx:=
 bQ (m:=nv) F X (F.binds fun _ _ _ _ _ _ us Z=>match us,Z with|[_],_=>rfl) jx rfl fun Y A outer s H E R=>
  aA (br 1 jx.nd (bt (ai)) (hs:=iw)) (aA (iI (b:=g9) Nx rfl (cU T.b_range (aa 0)) (aZ 2 jx.nd) (aN (dR (AJ (aa 1) (aE (dU (t:=fP) (m:=fQ) (kj (Nc:=["_law_b","_law_a"]) (js:=[none,ar 2]) (av (top 38)) ["_law_many","_law_found","_law_a"] (fun _=>rfl) rfl (by decide+kernel)) rfl (sR T.b_range (bW (aa 2) (az)) (aa 0)) (fun C ex s2 S=>⟨aZ 0 (show(["_law_b","_law_a"]:List Str).Nodup by decide+kernel),gI,dw (af (aa 1) (af (aa 0) (ai) ag) ag)⟩))))))) (aN (aY (aa 1))))
end
section
variable {P:eM}{w:fg}{K:d_}{mg:Str->Option a_}{base:gd}
theorem sv{f:dt}{U:gc}(F:Fun K "_law_named" "_law_named" (top 42) f U)(X:mg "_law_named"=ar (.ref f))(T:Txt K mg):DefX P w K mg base 1 "_law_named" ["_law_web_here","_law_names"] dZ:=
 bQ (m:=ny) F X (F.binds fun _ _ _ _ _ _ us Z=>match us,Z with|[_,_],_=>rfl) sm rfl fun Y A outer s H E R=>
  aN (aY (dw (af (aU (aa 0) (az)) (af (iJ T.b_tuple (aE (gE T.b_sorted (aE (dU (t:=hU) (m:=hV) (kj (Nc:=["_law_a","_law_b","_law_names"]) (js:=[none,none,ar 1]) (av (top 42)) ["_law_web_here","_law_names"] (fun _=>rfl) rfl (by decide+kernel)) rfl (iK (aU (aa 0) (az))) (fun C ex s2 S=>⟨jO rfl (cg (aZ 0 (show(["_law_a","_law_b","_law_names"]:List Str).Nodup by decide+kernel)) (cg (aZ 1 (show(["_law_a","_law_b","_law_names"]:List Str).Nodup by decide+kernel)) (ij))),gI,iJ T.b_tuple (aE (gE T.b_sorted (aE (bt (af (aU (aa 2) (aa 0)) (af (aU (aa 2) (aa 1)) (ai) bf) bf)))))⟩)))))) (ai) ba) bf)))
end
section
variable {P:eM}{w:fg}{K:d_}{mg:Str->Option a_}{base:gd}
theorem vw{f:dt}{U:gc}(F:Fun K "_law_tied" "_law_tied" (top 43) f U)(X:mg "_law_tied"=ar (.ref f))(T:Txt K mg):DefX P w K mg base 1 "_law_tied" ["_law_web_here","_law_one","_law_other"] bU:=
 bQ (m:=oR) F X (F.binds fun _ _ _ _ _ _ us Z=>match us,Z with|[_,_,_],_=>rfl) vo rfl fun Y A outer s H E S=>
  aN (aY (yP (eh S) (dw (af (nV rfl T.b_min (af (aa 1) (af (aa 2) (ai) ag) ag)) (af (qo rfl T.b_max (af (aa 1) (af (aa 2) (ai) ag) ag)) (ai) ba) ba)) (aU (aa 0) (az))))
end
section
variable {P:eM}{w:fg}{K:d_}{mg:Str->Option a_}{base:gd}
theorem sx{f:dt}{U:gc}(F:Fun K "_law_whole" "_law_whole" (top 44) f U)(X:mg "_law_whole"=ar (.ref f))(T:Txt K mg):DefX P w K mg base 1 "_law_whole" ["_law_thing"] gi:=
 bQ (m:=nz) F X (F.binds fun _ _ _ _ _ _ us Z=>match us,Z with|[_],_=>rfl) sr rfl fun Y A outer s H E S=>
  aN (aY (kC (gh (Ts:="int") T.b_isinstance T.b_int (aa 0)) (l9 (B5 (gh (Ts:="bool") T.b_isinstance T.b_bool (aa 0))))))
end
section
variable {P:eM}{w:fg}{K:d_}{mg:Str->Option a_}{base:gd}
theorem xi{f:dt}{R:gc}(F:Fun K "is_place" "is_place" (top 19) f R)(S:mg "is_place"=ar (.ref f))(T:Txt K mg)(Z:DefX P w K mg base 1 "is_whole" ["thing"] cY):DefX P w K mg base 2 "is_place" ["many","thing"] eX:=
 bQ (m:=qU) F S (F.binds fun _ _ _ _ _ _ us X=>match us,X with|[_,_],_=>rfl) xc rfl fun U A outer s H E Y=>
  aN (aY (kC (aL Z (Y.mono (by decide)) (af (aa 1) (ai) ag)) (l9 (Ca BK (BJ.or (xB (JR Y))) (lb fun _ _ _ _=>.bl _) xK (az) (aa 1) (aa 0)))))
end
section
variable {P:eM}{w:fg}{K:d_}{mg:Str->Option a_}{base:gd}
theorem yA{f:dt}{R:gc}(F:Fun K "goes_on" "goes_on" (top 30) f R)(S:mg "goes_on"=ar (.ref f))(T:Txt K mg)(Z:DefX P w K mg base 1 "are_tied" ["web","one","other"] eV):DefX P w K mg base 2 "goes_on" ["one","other","start","place"] df:=
 bQ (m:=n5) F S (F.binds fun _ _ _ _ _ _ us X=>match us,X with|[_,_,_,_],_=>rfl) rN rfl fun U A outer s H E Y=>
  aA (br 4 rN.nd (gf T.b_len (aa 2)) (hs:=fw)) (aA (cw (F6 (eh Y) (aa 3) (aa 2)) (aN (aY (eS))) (bG)) (aN (aY (nW rfl T.b_all (aE (dU (t:=jW) (m:=jX) (kj (Nc:=["ahead","one","at","other","start","place"]) (js:=[none,ar 0,ar 4,ar 1,ar 2,ar 3]) (av (top 30)) ["one","other","start","place","at"] (fun _=>rfl) rfl (by decide+kernel)) rfl (cU T.b_range (aa 4)) (fun C ex s2 Q=>⟨aZ 0 (show(["ahead","one","at","other","start","place"]:List Str).Nodup by decide+kernel),gI,vR (eh Y) (aE (aL Z (Y.mono (by decide)) (af (aa 1) (af (aa 0) (af (aa 2) (ai) ag) ag) ag))) (aE (aL Z (Y.mono (by decide)) (af (aa 3) (af (aU (aa 4) (aa 0)) (af (aa 5) (ai) ag) bf) ag)))⟩)))))))
end
section
variable {P:eM}{w:fg}{K:d_}{mg:Str->Option a_}{base:gd}
theorem sy{f:dt}{S:gc}(F:Fun K "_law_state" "_law_state" (top 36) f S)(U:mg "_law_state"=ar (.ref f))(T:Txt K mg)(Z:DefX P w K mg base 1 "_law_cell_at" ["_law_script","_law_k"] dE):DefX P w K mg base 2 "_law_state" ["_law_script","_law_k"] gj:=
 bQ (m:=nA) F U (F.binds fun _ _ _ _ _ _ us Y=>match us,Y with|[_,_],_=>rfl) lW rfl fun X A outer s H E R=>
  aA (br 2 lW.nd (aL Z (R.mono (by decide)) (af (aa 0) (af (aa 1) (ai) ag) ag)) (hs:=fw)) (aA (cw (JI (aa 2) (xJ (az) (az))) (aN (aY (bt (af (mr (aa 2) (xJ (az) (az))) (af (eS) (ai) ay) cJ)))) (bG)) (aN (aY (bt (af (kI (aa 2) (az)) (af (eS) (ai) ay) cJ)))))
end
section
variable {P:eM}{w:fg}{K:d_}{mg:Str->Option a_}{base:gd}
theorem nL{f:dt}{R:gc}(F:Fun K "_law_mixed_row" "_law_mixed_row" (top 39) f R)(S:mg "_law_mixed_row"=ar (.ref f))(T:Txt K mg)(Z:DefX P w K mg base 1 "_law_take" ["_law_state_here","_law_many"] aJ):DefX P w K mg base 2 "_law_mixed_row" ["_law_state_here","_law_things"] bj:=
 bQ (m:=fx) F S (F.binds fun _ _ _ _ _ _ us X=>match us,X with|[_,_],_=>rfl) gu rfl fun U A outer s H E Y=>
  aA (br 2 gu.nd (yR T.b_list (aa 1)) (hs:=fw)) (aA (br 3 gu.nd (bt (ai)) (hs:=iw)) (aA (B7 (b:=cL) 64 Nx (f9 (eh Y) (aa 2) (aE (bt (ai)))) (aN (dR (iF (aa 3) (Cn (aa 2) (aE (aL Z (Y.mono (by decide)) (af (aa 0) (af (gf T.b_len (aa 2)) (ai) ba) ag)))))))) (aN (aY (aa 3)))))
end
section
variable {P:eM}{w:fg}{K:d_}{mg:Str->Option a_}{base:gd}
theorem nM{f:dt}{R:gc}(F:Fun K "_law_great_web" "_law_great_web" (top 41) f R)(S:mg "_law_great_web"=ar (.ref f))(T:Txt K mg)(Z:DefX P w K mg base 1 "_law_take" ["_law_state_here","_law_many"] aJ):DefX P w K mg base 2 "_law_great_web" ["_law_state_here"] cn:=
 bQ (m:=fy) F S (F.binds fun _ _ _ _ _ _ us X=>match us,X with|[_],_=>rfl) cF rfl fun U A outer s H E Y=>
  aA (br 1 cF.nd (bW (az) (aE (aL Z (Y.mono (by decide)) (af (aa 0) (af (az) (ai) ay) ag)))) (hs:=ez)) (aA (br 2 cF.nd (bt (ai)) (hs:=iw)) (aA (iI (b:=fF) Nx rfl (cU T.b_range (aE (aL Z (Y.mono (by decide)) (af (aa 0) (af (az) (ai) ay) ag)))) (aZ 3 cF.nd) (aA (br 4 cF.nd (aE (aL Z (Y.mono (by decide)) (af (aa 0) (af (aa 1) (ai) ag) ag))) (hs:=fw)) (aA (br 5 cF.nd (kI (bW (bW (aa 4) (az)) (aE (aL Z (Y.mono (by decide)) (af (aa 0) (af (mr (aa 1) (az)) (ai) cJ) ag)))) (aa 1)) (hs:=ez)) (aN (dR (iF (aa 2) (dw (af (nV rfl T.b_min (af (aa 4) (af (aa 5) (ai) ag) ag)) (af (qo rfl T.b_max (af (aa 4) (af (aa 5) (ai) ag) ag)) (ai) ba) ba)))))))) (aN (aY (dw (af (aa 1) (af (iJ T.b_tuple (aE (uI rfl (Mi Y) T.b_sorted T.b_set (aa 2)))) (ai) ba) ag))))))
end
section
variable {P:eM}{w:fg}{K:d_}{mg:Str->Option a_}{base:gd}
theorem pC{f:dt}{Q:gc}(F:Fun K "_law_bad_web" "_law_bad_web" (top 45) f Q)(R:mg "_law_bad_web"=ar (.ref f))(T:Txt K mg)(Z:DefX P w K mg base 1 "_law_take" ["_law_state_here","_law_many"] aJ):DefX P w K mg base 2 "_law_bad_web" ["_law_state_here"] dF:=by
 refine bQ (m:=gk) F R (F.binds fun _ _ _ _ _ _ us S=>match us,S with|[_],_=>rfl) kg rfl fun Y A outer s H E O=>?_
 have key:∀e pos pos' X,SE (kh (lH P w) P w K mg base ["_law_state_here","_law_some"] "_law_bad_web" (av (top 45)) f Y A outer s H E).nox gQ e X->la e (ar (.Name "_law_some" pos')) pos.line (kh (lH P w) P w K mg base ["_law_state_here","_law_some"] "_law_bad_web" (av (top 45)) f Y A outer s H E).nox.env=aC dV->SS (kh (lH P w) P w K mg base ["_law_state_here","_law_some"] "_law_bad_web" (av (top 45)) f Y A outer s H E).nox gQ (.Assign [.Name "_law_some" pos'] e pos) (bA 1 X):=fun e pos pos' X h hs=>br 1 kg.nd h (hs:=hs);have U:∀pos,SE (kh (lH P w) P w K mg base ["_law_state_here","_law_some"] "_law_bad_web" (av (top 45)) f Y A outer s H E).nox gQ (.Name "_law_some" pos) (mV 1):=fun pos=>aa 1;refine aA ?_ ?_
 ·with_reducible refine key _ _ _ _ ?_ iw
  with_reducible refine bt ?_
  with_reducible refine aH (fU) ?_ ay
  with_reducible refine aH (az) ?_ ay
  with_reducible refine aH (cH 6 ?_) ?_ bo
  case refine_1=>rfl
  with_reducible refine aH (cH 6 ?_) ?_ bo
  case refine_1=>rfl
  with_reducible refine aH (cH 6 ?_) ?_ bo
  case refine_1=>rfl
  with_reducible refine aH (cH 6 ?_) ?_ bo
  case refine_1=>rfl
  with_reducible refine aH ?_ ?_ bo
  case refine_1=>exact(dw (af (az) (af (bt (ai)) (ai) uL) ay))
  with_reducible refine aH ?_ ?_ uL
  case refine_1=>exact(bt (af (az) (af (cH 6 rfl) (ai) bo) ay))
  with_reducible refine aH (cH 6 ?_) ?_ bo
  case refine_1=>rfl
  with_reducible refine aH (cH 6 ?_) ?_ bo
  case refine_1=>rfl
  with_reducible refine aH (Co) ?_ zb
  with_reducible refine aH (qc) ?_ ay
  exact ai
 refine aA ?_ ?_
 ·with_reducible refine key _ _ _ _ ?_ ez
  with_reducible refine bW (U _) ?_
  with_reducible refine bt ?_
  with_reducible refine aH (cH 6 ?_) ?_ bo
  case refine_1=>rfl
  with_reducible refine aH (cH 6 ?_) ?_ bo
  case refine_1=>rfl
  with_reducible refine aH (cH 6 ?_) ?_ bo
  case refine_1=>rfl
  with_reducible refine aH (cH 6 ?_) ?_ bo
  case refine_1=>rfl
  with_reducible refine aH (cH 6 ?_) ?_ bo
  case refine_1=>rfl
  exact ai
 refine aA ?_ ?_
 ·with_reducible refine key _ _ _ _ ?_ ez
  with_reducible refine bW (U _) ?_
  with_reducible refine bt ?_
  with_reducible refine aH (cH 6 ?_) ?_ bo
  case refine_1=>rfl
  with_reducible refine aH (cH 6 ?_) ?_ bo
  case refine_1=>rfl
  with_reducible refine aH (cH 6 ?_) ?_ bo
  case refine_1=>rfl
  with_reducible refine aH (cH 6 ?_) ?_ bo
  case refine_1=>rfl
  with_reducible refine aH ?_ ?_ bo
  case refine_1=>exact(dw (af (az) (af (dw (af (bt (af (az) (af (az) (ai) ay) ay)) (ai) uL)) (ai) bo) ay))
  with_reducible refine aH (cH 6 ?_) ?_ bo
  case refine_1=>rfl
  with_reducible refine aH (cH 6 ?_) ?_ bo
  case refine_1=>rfl
  with_reducible refine aH (cH 6 ?_) ?_ bo
  case refine_1=>rfl
  exact ai
 exact(aN (aY (aU (aa 1) (aL Z (O.mono (by decide)) (af (aa 0) (af (az) (ai) ay) ag)))))
end
section
variable {P:eM}{w:fg}{K:d_}{mg:Str->Option a_}{base:gd}
theorem rP{f:dt}{O:gc}(F:Fun K "_law_is_map" "_law_is_map" (top 48) f O)(R:mg "_law_is_map"=ar (.ref f))(T:Txt K mg)(Z:DefX P w K mg base 1 "_law_tied" ["_law_web_here","_law_one","_law_other"] bU)(Y:DefX P w K mg base 1 "_law_whole" ["_law_thing"] gi):DefX P w K mg base 2 "_law_is_map" ["_law_one","_law_other","_law_thing"] eF:=
 bQ (m:=lR) F R (F.binds fun _ _ _ _ _ _ us U=>match us,U with|[_,_,_],_=>rfl) kU rfl fun S A outer s H E X=>
  aA (cw (AA (qe (f9 (eh X) (aU (aa 0) (az)) (aU (aa 1) (az))) (qe (gy (fD (gh (Ts:="tuple") T.b_isinstance T.b_tuple (aa 2)))) (ur (f9 (eh X) (aE (dU (t:=cq) (m:=cu) (kj (Nc:=["_law_place"]) (js:=[none]) (av (top 48)) ["_law_one","_law_other","_law_thing","_law_b"] (fun _=>rfl) rfl (by decide+kernel)) rfl (iK (aa 2)) (fun C ex s2 Q=>⟨aZ 0 (show(["_law_place"]:List Str).Nodup by decide+kernel),jb (gy (fD (aE (aL Y (X.mono (by decide)) (af (aa 0) (ai) ag))))),aa 0⟩))) (aE (bt (ai)))))))) (aN (aY (eS))) (bG)) (aA (cw (f9 (eh X) (aE (yp T.b_sorted (aa 2))) (aE (iq rfl T.b_list T.b_range (aU (aa 0) (az))))) (aN (aY (eS))) (bG)) (aA (iI (b:=fA) Nx rfl (cU T.b_range (aU (aa 0) (az))) (aZ 3 kU.nd) (aN (cw (f9 (eh X) (aE (dU (t:=dG) (m:=dH) (kj (Nc:=["_law_a","_law_one","_law_b","_law_other","_law_thing"]) (js:=[none,ar 0,ar 3,ar 1,ar 2]) (av (top 48)) ["_law_one","_law_other","_law_thing","_law_b"] (fun _=>rfl) rfl (by decide+kernel)) rfl (cU T.b_range (aa 3)) (fun C ex s2 Q=>⟨aZ 0 (show(["_law_a","_law_one","_law_b","_law_other","_law_thing"]:List Str).Nodup by decide+kernel),jb (f9 (eh X) (aE (aL Z (X.mono (by decide)) (af (aa 1) (af (aa 0) (af (aa 2) (ai) ag) ag) ag))) (aE (aL Z (X.mono (by decide)) (af (aa 3) (af (aU (aa 4) (aa 0)) (af (aU (aa 4) (aa 2)) (ai) bf) bf) ag)))),aa 0⟩))) (aE (bt (ai)))) (aN (aY (eS))) (bG)))) (aN (aY (eS)))))
end
section
variable {P:eM}{w:fg}{K:d_}{mg:Str->Option a_}{base:gd}
theorem sC{f:dt}{R:gc}(F:Fun K "_law_first" "_law_first" (top 49) f R)(S:mg "_law_first"=ar (.ref f))(T:Txt K mg)(Z:DefX P w K mg base 1 "_law_tied" ["_law_web_here","_law_one","_law_other"] bU):DefX P w K mg base 2 "_law_first" ["_law_one","_law_other"] fB:=
 bQ (m:=iz) F S (F.binds fun _ _ _ _ _ _ us X=>match us,X with|[_,_],_=>rfl) cT rfl fun U A outer s H E Y=>
  aA (cw (f9 (eh Y) (aU (aa 0) (az)) (aU (aa 1) (az))) (aN (aY (fU))) (bG)) (aA (br 2 cT.nd (aE (bt (af (cH 6 rfl) (ai) bo))) (hs:=iw)) (aA (iI (b:=ia) Nx rfl (cU T.b_range (aU (aa 0) (az))) (aZ 3 cT.nd) (aA (br 4 cT.nd (bt (ai)) (hs:=iw)) (aA (iI (b:=hZ) Nx rfl (iK (aa 2)) (aZ 5 cT.nd) (aN (iI (b:=eA) Nx rfl (cU T.b_range (aU (aa 0) (az))) (aZ 6 cT.nd) (aN (cw (Ce (eh Y) (aa 6) (aa 5)) (aA (qO (mn 7 (t:=fR) (m:=fS) cT.nd (kj (Nc:=["_law_a","_law_one","_law_b","_law_other","_law_row","_law_place"]) (js:=[none,ar 0,ar 3,ar 1,ar 5,ar 6]) (av (top 49)) ["_law_one","_law_other","_law_found","_law_b","_law_longer","_law_row","_law_place","_law_wrong"] (fun _=>rfl) rfl (by decide+kernel)) rfl (cU T.b_range (aa 3)) (fun C ex s2 Q=>⟨aZ 0 (show(["_law_a","_law_one","_law_b","_law_other","_law_row","_law_place"]:List Str).Nodup by decide+kernel),jb (f9 (eh Y) (aE (aL Z (Y.mono (by decide)) (af (aa 1) (af (aa 0) (af (aa 2) (ai) ag) ag) ag))) (aE (aL Z (Y.mono (by decide)) (af (aa 3) (af (aU (aa 4) (aa 0)) (af (aa 5) (ai) ag) bf) ag)))),aa 0⟩))) (aN (cw (qi (eh Y) (aa 7) (aE (bt (ai)))) (aN (dR (iF (aa 4) (aE (bW (aa 5) (dw (af (aa 6) (ai) ag))))))) (bG)))) (bG)))))) (aN (br 2 cT.nd (aa 4) (hs:=E6)))))) (aN (aY (aU (aE (bW (aa 2) (aE (bt (af (fU) (ai) ay))))) (az))))))
end
section
variable {P:eM}{w:fg}{K:d_}{mg:Str->Option a_}{base:gd}
theorem vx{f:dt}{R:gc}(F:Fun K "_law_bent" "_law_bent" (top 50) f R)(S:mg "_law_bent"=ar (.ref f))(T:Txt K mg)(Z:DefX P w K mg base 1 "_law_take" ["_law_state_here","_law_many"] aJ):DefX P w K mg base 2 "_law_bent" ["_law_state_here","_law_row"] di:=
 bQ (m:=jg) F S (F.binds fun _ _ _ _ _ _ us X=>match us,X with|[_,_],_=>rfl) gv rfl fun U A outer s H E Y=>
  aA (Hl 2 3 rfl gv.nd (af (aE (aL Z (Y.mono (by decide)) (af (aa 0) (af (bW (gf T.b_len (aa 1)) (az)) (ai) cJ) ag))) (af (aE (aL Z (Y.mono (by decide)) (af (aa 0) (af (bW (gf T.b_len (aa 1)) (az)) (ai) cJ) ag))) (ai) ba) ba)) (aA (br 4 gv.nd (aU (aE (bt (by (refine aH (gf T.b_len (aa 1)) ?_ ba;refine aH (yf) ?_ qK;refine aH (eS) ?_ ay;refine aH (fU) ?_ ay;refine aH (qc) ?_ ay;refine aH (cH 6 rfl) ?_ bo;refine aH (az) ?_ ay;refine aH (xJ (az) (az)) ?_ cJ;exact ai)))) (aE (aL Z (Y.mono (by decide)) (af (aa 0) (af (az) (ai) ay) ag)))) (hs:=iy)) (aA (br 5 gv.nd (aE (bt (by (refine aH (aE (bW (aE (bW (aE (dy (aa 1) (fh) (fi (aa 2)))) (dw (af (aa 4) (ai) ag)))) (aE (dy (aa 1) (fi (bW (aa 2) (az))) (fh))))) ?_ cJ;refine aH (aE (bW (aE (dy (aa 1) (fh) (fi (aa 2)))) (aE (dy (aa 1) (fi (bW (aa 2) (az))) (fh))))) ?_ cJ;refine aH (aE (bW (aE (bW (aE (dy (aa 1) (fh) (fi (aa 2)))) (dw (af (aa 4) (ai) ag)))) (aE (dy (aa 1) (fi (aa 2)) (fh))))) ?_ cJ;refine aH (aE (yR T.b_list (aa 1))) ?_ ba;refine aH (fU) ?_ ay;exact ai)))) (hs:=iw)) (aA (br 5 gv.nd (aE (bW (aa 5) (aE (bt (by (refine aH (aE (bW (aE (dy (aa 1) (fi (aa 2)) (fh))) (aE (dy (aa 1) (fh) (fi (aa 2)))))) ?_ cJ;refine aH (aE (bW (aE (dy (aa 1) (fh) (fi (nV rfl T.b_min (af (aa 2) (af (aa 3) (ai) ag) ag))))) (aE (Cq (aE (dy (aa 1) (fi (nV rfl T.b_min (af (aa 2) (af (aa 3) (ai) ag) ag))) (fh))))))) ?_ cJ;refine aH (Co) ?_ zb;refine aH (az) ?_ ay;refine aH (aE (Cq (aa 1))) ?_ bf;refine aH (dw (af (aa 1) (ai) ag)) ?_ bo;exact ai)))))) (hs:=ez)) (aN (aY (aU (aa 5) (aE (aL Z (Y.mono (by decide)) (af (aa 0) (af (az) (ai) ay) ag)))))))))
end
section
variable {P:eM}{w:fg}{K:d_}{mg:Str->Option a_}{base:gd}
theorem Bq{f:dt}{Q:gc}(F:Fun K "is_tie" "is_tie" (top 20) f Q)(R:mg "is_tie"=ar (.ref f))(T:Txt K mg)(Y:DefX P w K mg base 1 "is_pair" ["thing"] dD)(Z:DefX P w K mg base 2 "is_place" ["many","thing"] eX):DefX P w K mg base 3 "is_tie" ["many","thing"] kP:=
 bQ (m:=qV) F R (F.binds fun _ _ _ _ _ _ us U=>match us,U with|[_,_],_=>rfl) oy rfl fun S A outer s H E X=>
  aA (cw (gy (fD (aL Y (X.mono (by decide)) (af (aa 1) (ai) ag)))) (aN (aY (eS))) (bG)) (aA (ma (aa 1) (jO rfl (cg (aZ 2 oy.nd) (cg (aZ 3 oy.nd) (ij))))) (aN (aY (kC (aL Z (X.mono (by decide)) (af (aa 0) (af (aa 2) (ai) ag) ag)) (kC (aL Z (X.mono (by decide)) (af (aa 0) (af (aa 3) (ai) ag) ag)) (l9 (F4 (JR X) (aa 2) (aa 3))))))))
end
section
variable {P:eM}{w:fg}{K:d_}{mg:Str->Option a_}{base:gd}
theorem xj{f:dt}{N:gc}(F:Fun K "_law_web" "_law_web" (top 40) f N)(O:mg "_law_web"=ar (.ref f))(T:Txt K mg)(Z:DefX P w K mg base 1 "_law_take" ["_law_state_here","_law_many"] aJ)(Y:DefX P w K mg base 1 "_law_pairs" ["_law_many"] bx)(X:DefX P w K mg base 2 "_law_mixed_row" ["_law_state_here","_law_things"] bj):DefX P w K mg base 3 "_law_web" ["_law_state_here","_law_most"] d0:=
 bQ (m:=jY) F O (F.binds fun _ _ _ _ _ _ us R=>match us,R with|[_,_],_=>rfl) dq rfl fun Q A outer s H E U=>
  aA (br 2 dq.nd (qo rfl T.b_max (af (az) (af (mr (aa 1) (aU (aE (bt (by (refine aH (az) ?_ ay;refine aH (az) ?_ ay;refine aH (az) ?_ ay;refine aH (az) ?_ ay;refine aH (az) ?_ ay;refine aH (az) ?_ ay;refine aH (az) ?_ ay;refine aH (aa 1) ?_ ag;exact ai)))) (aE (aL Z (U.mono (by decide)) (af (aa 0) (af (az) (ai) ay) ag))))) (ai) cJ) ay)) (hs:=fw)) (aA (br 3 dq.nd (aE (aL Z (U.mono (by decide)) (af (aa 0) (af (az) (ai) ay) ag))) (hs:=fw)) (aA (br 4 dq.nd (dU (t:=jt) (m:=ju) (kj (Nc:=["_law_tie","_law_state_here","_law_way"]) (js:=[none,ar 0,ar 3]) (av (top 40)) ["_law_state_here","_law_most","_law_many","_law_way","_law_ties","_law_row","_law_at","_law_odd"] (fun _=>rfl) rfl (by decide+kernel)) rfl (iK (aE (aL Y (U.mono (by decide)) (af (aa 2) (ai) ag)))) (fun C ex s2 S=>⟨aZ 0 (show(["_law_tie","_law_state_here","_law_way"]:List Str).Nodup by decide+kernel),jb (F5 (JR U) (aE (aL Z (U.mono (by decide)) (af (aa 1) (af (az) (ai) ay) ag))) (aU (aE (bt (af (az) (af (az) (af (az) (ai) ay) ay) ay))) (kI (aa 2) (az)))),aa 0⟩))) (aA (br 5 dq.nd (aE (aL X (U.mono (by decide)) (af (aa 0) (af (aE (iq rfl T.b_list T.b_range (aa 2))) (ai) ba) ag))) (hs:=fw)) (aA (cw (yO (aa 3) (az)) (aA (br 4 dq.nd (bt (ai)) (hs:=iw)) (aA (iI (b:=gK) Nx rfl (sR T.b_range (az) (aa 2)) (aZ 6 dq.nd) (aN (dR (iF (aa 4) (iJ T.b_tuple (aE (gE T.b_sorted (aE (bt (af (aU (aa 5) (aa 6)) (af (aU (aa 5) (aU (aE (bt (by (refine aH (mr (aa 6) (az)) ?_ cJ;refine aH (mr (aa 6) (az)) ?_ cJ;refine aH (az) ?_ ay;refine aH (pF (aa 6) (az)) ?_ cJ;exact ai)))) (mr (aa 3) (az)))) (ai) bf) bf)))))))))) (aA (cw (AA (B6 (qi (eh U) (aa 3) (az)) (yM (yO (aa 2) (az))))) (aN (dR (iF (aa 4) (iJ T.b_tuple (aE (gE T.b_sorted (aE (bt (af (aU (aa 5) (az)) (af (aU (aa 5) (mr (aa 2) (az))) (ai) bf) bf))))))))) (bG)) (aA (br 7 dq.nd (aE (dU (t:=fJ) (m:=fK) (kj (Nc:=["_law_tie","_law_state_here"]) (js:=[none,ar 0]) (av (top 40)) ["_law_state_here","_law_most","_law_many","_law_way","_law_ties","_law_row","_law_at","_law_odd"] (fun _=>rfl) rfl (by decide+kernel)) rfl (iK (aE (aL Y (U.mono (by decide)) (af (aa 2) (ai) ag)))) (fun C ex s2 S=>⟨aZ 0 (show(["_law_tie","_law_state_here"]:List Str).Nodup by decide+kernel),jb (qi (eh U) (aE (aL Z (U.mono (by decide)) (af (aa 1) (af (az) (ai) ay) ag))) (az)),aa 0⟩)))) (aN (br 4 dq.nd (dU (t:=gL) (m:=gM) (kj (Nc:=["_law_tie","_law_ties","_law_odd"]) (js:=[none,ar 4,ar 7]) (av (top 40)) ["_law_state_here","_law_most","_law_many","_law_way","_law_ties","_law_row","_law_at","_law_odd"] (fun _=>rfl) rfl (by decide+kernel)) rfl (iK (aE (aL Y (U.mono (by decide)) (af (aa 2) (ai) ag)))) (fun C ex s2 S=>⟨aZ 0 (show(["_law_tie","_law_ties","_law_odd"]:List Str).Nodup by decide+kernel),jb (f9 (eh U) (yP (eh U) (aa 0) (aa 1)) (yP (eh U) (aa 0) (aa 2))),aa 0⟩)))))))) (bG)) (aN (aY (dw (af (aa 2) (af (iJ T.b_tuple (aE (gE T.b_sorted (aa 4)))) (ai) ba) ag))))))))
end
section
variable {P:eM}{w:fg}{K:d_}{mg:Str->Option a_}{base:gd}
theorem Br{f:dt}{N:gc}(F:Fun K "is_web" "is_web" (top 22) f N)(O:mg "is_web"=ar (.ref f))(T:Txt K mg)(Y:DefX P w K mg base 1 "is_whole" ["thing"] cY)(X:DefX P w K mg base 1 "is_pair" ["thing"] dD)(U:DefX P w K mg base 3 "is_tie" ["many","thing"] kP)(Z:DefX P w K mg base 1 "is_rising" ["things"] fY):DefX P w K mg base 4 "is_web" ["thing"] jH:=
 bQ (m:=qW) F O (F.binds fun _ _ _ _ _ _ us R=>match us,R with|[_],_=>rfl) oz rfl fun Q A outer s H E S=>
  aA (cw (gy (fD (aE (aL X (S.mono (by decide)) (af (aa 0) (ai) ag))))) (aN (aY (eS))) (bG)) (aA (ma (aa 0) (jO rfl (cg (aZ 1 oz.nd) (cg (aZ 2 oz.nd) (ij))))) (aA (cw (AA (qe (gy (fD (aE (aL Y (S.mono (by decide)) (af (aa 1) (ai) ag))))) (qe (gy (Cb BK BK (lb fun _ _ _ _=>.bl _) (lb fun _ _ _ _=>.bl _) (az) (aa 1) (qL rfl T.g_MOST_PLACES))) (ur (gy (fD (gh (Ts:="tuple") T.b_isinstance T.b_tuple (aa 2)))))))) (aN (aY (eS))) (bG)) (aN (aY (kC (nW rfl T.b_all (aE (dU (t:=jh) (m:=ji) (kj (Nc:=["tie","many"]) (js:=[none,ar 1]) (av (top 22)) ["thing","many","ties"] (fun _=>rfl) rfl (by decide+kernel)) rfl (iK (aa 2)) (fun C ex s2 L=>⟨aZ 0 (show(["tie","many"]:List Str).Nodup by decide+kernel),gI,aE (aL U (S.mono (by decide)) (af (aa 1) (af (aa 0) (ai) ag) ag))⟩)))) (l9 (aE (aL Z (S.mono (by decide)) (af (aa 2) (ai) ag)))))))))
end
section
variable {P:eM}{w:fg}{K:d_}{mg:Str->Option a_}{base:gd}
theorem vy{f:dt}{N:gc}(F:Fun K "_law_pair" "_law_pair" (top 51) f N)(O:mg "_law_pair"=ar (.ref f))(T:Txt K mg)(Y:DefX P w K mg base 1 "_law_take" ["_law_state_here","_law_many"] aJ)(Z:DefX P w K mg base 2 "_law_mixed_row" ["_law_state_here","_law_things"] bj)(X:DefX P w K mg base 3 "_law_web" ["_law_state_here","_law_most"] d0)(U:DefX P w K mg base 1 "_law_named" ["_law_web_here","_law_names"] dZ):DefX P w K mg base 4 "_law_pair" ["_law_state_here"] eY:=
 bQ (m:=jj) F O (F.binds fun _ _ _ _ _ _ us R=>match us,R with|[_],_=>rfl) fC rfl fun Q A outer s H E S=>
  aA (br 1 fC.nd (aU (aE (bt (af (az) (af (az) (af (az) (ai) ay) ay) ay))) (aE (aL Y (S.mono (by decide)) (af (aa 0) (af (az) (ai) ay) ag)))) (hs:=iy)) (aA (br 2 fC.nd (aE (aL X (S.mono (by decide)) (af (aa 0) (af (aa 1) (ai) ag) ag))) (hs:=fw)) (aA (br 3 fC.nd (aE (aL Y (S.mono (by decide)) (af (aa 0) (af (az) (ai) ay) ag))) (hs:=fw)) (aA (cw (qi (eh S) (aa 3) (az)) (aN (aY (dw (af (aa 2) (af (aE (aL X (S.mono (by decide)) (af (aa 0) (af (aa 1) (ai) ag) ag))) (ai) ba) ag)))) (bG)) (aA (br 4 fC.nd (aE (aL U (S.mono (by decide)) (af (aa 2) (af (aE (aL Z (S.mono (by decide)) (af (aa 0) (af (aE (iq rfl T.b_list T.b_range (aU (aa 2) (az)))) (ai) ba) ag))) (ai) ba) ag))) (hs:=fw)) (aA (cw (AA (B6 (qi (eh S) (aa 3) (az)) (yM (yO (aU (aa 2) (az)) (az))))) (aN (br 4 fC.nd (dw (af (aU (aa 2) (az)) (af (aE (dy (aU (aa 4) (az)) (fh) (fi (pF (gf T.b_len (aU (aa 4) (az))) (az))))) (ai) bf) bf)) (hs:=C5))) (bG)) (aN (aY (dw (af (aa 2) (af (aa 4) (ai) ag) ag)))))))))
end
section
variable {P:eM}{w:fg}{K:d_}{mg:Str->Option a_}{base:gd}
theorem xk{f:dt}{S:gc}(F:Fun K "need_web" "need_web" (top 23) f S)(U:mg "need_web"=ar (.ref f))(T:Txt K mg)(Z:DefX P w K mg base 4 "is_web" ["thing"] jH):DefX P w K mg base 5 "need_web" ["thing"] b0:=
 lr (m:=qX) F U (F.binds fun _ _ _ _ _ _ us Y=>match us,Y with|[_],_=>rfl) xf rfl fun X A outer s H E R=>
  aN (cw (gy (fD (aE (cK Z (R.mono (by decide)) bO.pass (af (aa 0) (ai) ag))))) (aN (CU bO rfl T.err (by decide) (by decide) (af (qc) (ai) ay))) (bG))
end
section
variable {P:eM}{w:fg}{K:d_}{mg:Str->Option a_}{base:gd}
theorem mF{f:dt}{Q:gc}(F:Fun K "need_few_places" "need_few_places" (top 24) f Q)(R:mg "need_few_places"=ar (.ref f))(T:Txt K mg)(S:GrX P w K mg base)(Z:DefX P w K mg base 5 "need_web" ["thing"] b0):DefX P w K mg base 6 "need_few_places" ["web","most"] cB:=
 lr (m:=jk) F R (F.binds fun _ _ _ _ _ _ us X=>match us,X with|[_,_],_=>rfl) mD rfl fun U A outer s H E Y=>
  aA (dR (aE (cK Z (Y.mono (by decide)) bO.pass (af (aa 0) (ai) ag)))) (aN (cw (yO (aU (aa 0) (az)) (aa 1)) (aN (Dh bO rfl T.err S (Y.mono (by decide)) (af (aU (aa 0) (az)) (af (aa 1) (ai) ag) bf))) (bG)))
end
section
variable {P:eM}{w:fg}{K:d_}{mg:Str->Option a_}{base:gd}
theorem yB{f:dt}{Q:gc}(F:Fun K "degrees" "degrees" (top 26) f Q)(S:mg "degrees"=ar (.ref f))(T:Txt K mg)(Z:DefX P w K mg base 5 "need_web" ["thing"] b0):DefX P w K mg base 6 "degrees" ["web"] eI:=
 lr (m:=tE) F S (F.binds fun _ _ _ _ _ _ us X=>match us,X with|[_],_=>rfl) mE rfl fun U A outer s H E Y=>
  aA (dR (aE (cK Z (Y.mono (by decide)) bO.pass (af (aa 0) (ai) ag)))) (aA (ma (aa 0) (jO rfl (cg (aZ 1 mE.nd) (cg (aZ 2 mE.nd) (ij))))) (aN (aY (aE (uO (dU (t:=j5) (m:=j6) (kj (Nc:=["place","ties"]) (js:=[none,ar 2]) (av (top 26)) ["web","many","ties"] (fun _=>rfl) rfl (by decide+kernel)) rfl (cU T.b_range (aa 1)) (fun C ex s2 R=>⟨aZ 0 (show(["place","ties"]:List Str).Nodup by decide+kernel),gI,gf T.b_len (aE (dU (t:=jZ) (m:=j4) (kj (Nc:=["tie","place"]) (js:=[none,ar 0]) _ ["place","ties"] (fun _=>rfl) rfl rfl) rfl (iK (aa 1)) (fun C ex s2 R=>⟨aZ 0 (show(["tie","place"]:List Str).Nodup by decide+kernel),jb (F6 (eh Y) (aa 1) (aa 0)),aa 0⟩)))⟩)))))))
end
section
variable {P:eM}{w:fg}{K:d_}{mg:Str->Option a_}{base:gd}
theorem rQ{f:dt}{Q:gc}(F:Fun K "need_mapped" "need_mapped" (top 29) f Q)(R:mg "need_mapped"=ar (.ref f))(T:Txt K mg)(Y:DefX P w K mg base 5 "need_web" ["thing"] b0)(Z:DefX P w K mg base 6 "need_few_places" ["web","most"] cB):DefX P w K mg base 7 "need_mapped" ["one","other"] bq:=
 lr (m:=lU) F R (F.binds fun _ _ _ _ _ _ us U=>match us,U with|[_,_],_=>rfl) rO rfl fun S A outer s H E X=>
  aA (dR (aE (cK Y (X.mono (by decide)) bO.pass (af (aa 0) (ai) ag)))) (aA (dR (aE (cK Y (X.mono (by decide)) bO.pass (af (aa 1) (ai) ag)))) (aA (dR (aE (cK Z (X.mono (by decide)) bO.pass (af (aa 0) (af (qL rfl T.g_MOST_MAPPED) (ai) ag) ag)))) (aN (dR (aE (cK Z (X.mono (by decide)) bO.pass (af (aa 1) (af (qL rfl T.g_MOST_MAPPED) (ai) ag) ag)))))))
end
section
variable {P:eM}{w:fg}{K:d_}{mg:Str->Option a_}{base:gd}
theorem sD{j:Nat}{X:List D->M D}{f:dt}{Q:gc}(F:Fun K "_law_same" "_law_same" (top 46) f Q)(R:mg "_law_same"=ar (.ref f))(T:Txt K mg)(Z:DefX P w K mg base (1+j) "_law_same" ["_law_found","_law_due"] X):DefX P w K mg base (1+j+1) "_law_same" ["_law_found","_law_due"] (lq 2 2 (dj X)):=
 bQ (m:=dj X) F R (F.binds fun _ _ _ _ _ _ us U=>match us,U with|[_,_],_=>rfl) vp rfl fun S A outer s H E Y=>
  aA (cw (fD (EH (Ts:="tuple") (Us:="list") T.b_isinstance T.b_tuple T.b_list (aa 1))) (aA (cw (AA (qe (f9 (eh Y) (gh (Ts:="tuple") T.b_isinstance T.b_tuple (aa 0)) (gh (Ts:="tuple") T.b_isinstance T.b_tuple (aa 1))) (ur (f9 (eh Y) (gh (Ts:="list") T.b_isinstance T.b_list (aa 0)) (gh (Ts:="list") T.b_isinstance T.b_list (aa 1)))))) (aN (aY (eS))) (bG)) (aA (cw (f9 (eh Y) (gf T.b_len (aa 0)) (gf T.b_len (aa 1))) (aN (aY (eS))) (bG)) (aN (aY (nW rfl T.b_all (aE (dU (t:=iR X) (m:=iS X) (kj (Nc:=["_law_one","_law_other"]) (js:=[none,none]) (av (top 46)) ["_law_found","_law_due"] (fun _=>rfl) rfl (by decide+kernel)) rfl (zm T.b_zip (aa 0) (aa 1)) (fun C ex s2 O=>⟨jO rfl (cg (aZ 0 (show(["_law_one","_law_other"]:List Str).Nodup by decide+kernel)) (cg (aZ 1 (show(["_law_one","_law_other"]:List Str).Nodup by decide+kernel)) (ij))),gI,aE (aL Z (Y.mono (Ms _)) (af (aa 0) (af (aa 1) (ai) ag) ag))⟩)))))))) (bG)) (aN (aY (kC (vR (eh Y) (aa 0) (aa 1)) (l9 (vR (eh Y) (gh (Ts:="bool") T.b_isinstance T.b_bool (aa 0)) (gh (Ts:="bool") T.b_isinstance T.b_bool (aa 1)))))))
theorem lX{f:dt}{Y:gc}(F:Fun K "_law_same" "_law_same" (top 46) f Y)(Z:mg "_law_same"=ar (.ref f))(T:Txt K mg):∀n,DefX P w K mg base (1+n) "_law_same" ["_law_found","_law_due"] (cO n)
 |0=>DefX.none F Z (F.binds fun _ _ _ _ _ _ us X=>match us,X with|[_,_],_=>rfl)
 |n+1=>sD F Z T (lX F Z T n)
theorem vz{f:dt}{Z:gc}(F:Fun K "_law_same" "_law_same" (top 46) f Z)(Y:mg "_law_same"=ar (.ref f))(T:Txt K mg):DefX P w K mg base 7 "_law_same" ["_law_found","_law_due"] dP:=lX F Y T 6
end
section
variable {P:eM}{w:fg}{K:d_}{mg:Str->Option a_}{base:gd}
theorem vA{f:dt}{N:gc}(F:Fun K "map_holds" "map_holds" (top 31) f N)(Q:mg "map_holds"=ar (.ref f))(T:Txt K mg)(Y:DefX P w K mg base 2 "is_place" ["many","thing"] eX)(Z:DefX P w K mg base 7 "need_mapped" ["one","other"] bq)(X:DefX P w K mg base 2 "goes_on" ["one","other","start","place"] df):DefX P w K mg base 8 "map_holds" ["one","other","thing"] dm:=
 lr (m:=oU) F Q (F.binds fun _ _ _ _ _ _ us S=>match us,S with|[_,_,_],_=>rfl) nJ rfl fun R A outer s H E U=>
  aA (dR (aE (cK Z (U.mono (by decide)) bO.pass (af (aa 0) (af (aa 1) (ai) ag) ag)))) (aA (br 3 nJ.nd (aU (aa 0) (az)) (hs:=iy)) (aA (cw (AA (qe (f9 (eh U) (aU (aa 1) (az)) (aa 3)) (qe (gy (fD (gh (Ts:="tuple") T.b_isinstance T.b_tuple (aa 2)))) (ur (f9 (eh U) (gf T.b_len (aa 2)) (aa 3)))))) (aN (aY (eS))) (bG)) (aA (cw (gy (fD (nW rfl T.b_all (aE (uO (dU (t:=gm) (m:=gn) (kj (Nc:=["place","many"]) (js:=[none,ar 3]) (av (top 31)) ["one","other","thing","many"] (fun _=>rfl) rfl (by decide+kernel)) rfl (iK (aa 2)) (fun C ex s2 O=>⟨aZ 0 (show(["place","many"]:List Str).Nodup by decide+kernel),gI,aE (aL Y (U.mono (by decide)) (af (aa 1) (af (aa 0) (ai) ag) ag))⟩))))))) (aN (aY (eS))) (bG)) (aN (aY (nW rfl T.b_all (aE (uO (dU (t:=iT) (m:=iU) (kj (Nc:=["at","place","one","other","thing"]) (js:=[none,none,ar 0,ar 1,ar 2]) (av (top 31)) ["one","other","thing","many"] (fun _=>rfl) rfl (by decide+kernel)) rfl (E8 T.b_enumerate (aa 2)) (fun C ex s2 O=>⟨jO rfl (cg (aZ 0 (show(["at","place","one","other","thing"]:List Str).Nodup by decide+kernel)) (cg (aZ 1 (show(["at","place","one","other","thing"]:List Str).Nodup by decide+kernel)) (ij))),gI,aE (aL X (U.mono (by decide)) (by (refine aH (aa 2) ?_ ag;refine aH (aa 3) ?_ ag;refine aH (aE (dy (aa 4) (fh) (fi (aa 0)))) ?_ bf;refine aH (aa 1) ?_ ag;exact ai)))⟩))))))))))
end
section
variable {P:eM}{w:fg}{K:d_}{mg:Str->Option a_}{base:gd}
theorem mG{j:Nat}{X:List D->M D}{f:dt}{O:gc}(F:Fun K "first_map_from" "first_map_from" (top 32) f O)(Q:mg "first_map_from"=ar (.ref f))(T:Txt K mg)(Z:DefX P w K mg base 2 "goes_on" ["one","other","start","place"] df)(Y:DefX P w K mg base (3+j) "first_map_from" ["one","other","start"] X):DefX P w K mg base (3+j+1) "first_map_from" ["one","other","start"] (lq 6 3 (dI X)):=
 bQ (m:=dI X) F Q (F.binds fun _ _ _ _ _ _ us S=>match us,S with|[_,_,_],_=>rfl) eR rfl fun R A outer s H E U=>
  aA (br 3 eR.nd (aU (aa 0) (az)) (hs:=iy)) (aA (cw (qi (eh U) (gf T.b_len (aa 2)) (aa 3)) (aN (aY (aa 2))) (bG)) (aA (iI (b:=du X) Nx rfl (cU T.b_range (aa 3)) (aZ 4 eR.nd) (aN (cw (fD (aE (aL Z (U.mono (by omega)) (by (refine aH (aa 0) ?_ ag;refine aH (aa 1) ?_ ag;refine aH (aa 2) ?_ ag;refine aH (aa 4) ?_ ag;exact ai))))) (aA (br 5 eR.nd (aE (aL Y (U.mono (Ms _)) (af (aa 0) (af (aa 1) (af (aE (bW (aa 2) (dw (af (aa 4) (ai) ag)))) (ai) cJ) ag) ag))) (hs:=fw)) (aN (cw (vS (aa 5) (fU)) (aN (aY (aa 5))) (bG)))) (bG)))) (aN (aY (fU)))))
theorem iY{f:dt}{U:gc}(F:Fun K "first_map_from" "first_map_from" (top 32) f U)(Y:mg "first_map_from"=ar (.ref f))(T:Txt K mg)(Z:DefX P w K mg base 2 "goes_on" ["one","other","start","place"] df):∀n,DefX P w K mg base (3+n) "first_map_from" ["one","other","start"] (bP n)
 |0=>DefX.none F Y (F.binds fun _ _ _ _ _ _ us X=>match us,X with|[_,_,_],_=>rfl)
 |n+1=>mG F Y T Z (iY F Y T Z n)
theorem nN{f:dt}{Y:gc}(F:Fun K "first_map_from" "first_map_from" (top 32) f Y)(X:mg "first_map_from"=ar (.ref f))(T:Txt K mg)(Z:DefX P w K mg base 2 "goes_on" ["one","other","start","place"] df):DefX P w K mg base 11 "first_map_from" ["one","other","start"] dJ:=iY F X T Z 8
end
section
variable {P:eM}{w:fg}{K:d_}{mg:Str->Option a_}{base:gd}
theorem Bs{f:dt}{O:gc}(F:Fun K "map_to" "map_to" (top 33) f O)(Q:mg "map_to"=ar (.ref f))(T:Txt K mg)(X:DefX P w K mg base 6 "degrees" ["web"] eI)(Y:DefX P w K mg base 7 "need_mapped" ["one","other"] bq)(Z:DefX P w K mg base 11 "first_map_from" ["one","other","start"] dJ):DefX P w K mg base 12 "map_to" ["one","other"] eZ:=
 lr (m:=wL) F Q (F.binds fun _ _ _ _ _ _ us S=>match us,S with|[_,_],_=>rfl) Bp rfl fun R A outer s H E U=>
  aA (dR (aE (cK Y (U.mono (by decide)) bO.pass (af (aa 0) (af (aa 1) (ai) ag) ag)))) (aA (cw (f9 (eh U) (aE (gE T.b_sorted (aE (cK X (U.mono (by decide)) bO.pass (af (aa 0) (ai) ag))))) (aE (gE T.b_sorted (aE (cK X (U.mono (by decide)) bO.pass (af (aa 1) (ai) ag)))))) (aN (aY (fU))) (bG)) (aN (aY (aE (cK Z (U.mono (by decide)) bO.pass (af (aa 0) (af (aa 1) (af (cH 6 rfl) (ai) bo) ag) ag))))))
end
section
variable {P:eM}{w:fg}{K:d_}{mg:Str->Option a_}{base:gd}
theorem pD{f:dt}{S:gc}(F:Fun K "_law_refused" "_law_refused" (top 47) f S)(U:mg "_law_refused"=ar (.ref f))(T:Txt K mg):RefX P w K mg 14 13 "_law_refused" ["_law_call"] bR:=
 HX (m:=gp) F U (F.binds fun _ _ _ _ _ _ us Y=>match us,Y with|[_],_=>rfl) cb rfl fun base G a R ql ds vs mm L X A outer s H E Z=>
  aA (br 1 cb.nd (fU) (hs:=wz)) (aA (HU rfl rfl L (Z.mono (by decide)) cb.nd T.err G rfl (.inl rfl) rfl rfl rfl rfl rfl) (aA (br 3 cb.nd (bt (af (fu T.err (by decide) G T.b_isinstance (aa 1)) (af (fu T.err (by decide) G T.b_isinstance (aa 1)) (af (fu T.err (by decide) G T.b_isinstance (aa 1)) (ai) ba) ba) ba)) (hs:=iw)) (aA (br 3 cb.nd (bW (aa 3) (aE (bt (af (fu T.err (by decide) G T.b_isinstance (aa 1)) (af (fu T.err (by decide) G T.b_isinstance (aa 1)) (af (fu T.err (by decide) G T.b_isinstance (aa 1)) (ai) ba) ba) ba)))) (hs:=ez)) (aA (br 3 cb.nd (bW (aa 3) (aE (bt (af (fu T.err (by decide) G T.b_isinstance (aa 1)) (af (fu T.err (by decide) G T.b_isinstance (aa 1)) (af (fu T.err (by decide) G T.b_isinstance (aa 1)) (ai) ba) ba) ba)))) (hs:=ez)) (aA (br 3 cb.nd (bW (aa 3) (aE (bt (af (fu T.err (by decide) G T.b_isinstance (aa 1)) (af (fu T.err (by decide) G T.b_isinstance (aa 1)) (af (fu T.err (by decide) G T.b_isinstance (aa 1)) (ai) ba) ba) ba)))) (hs:=ez)) (aA (dR (iF (aa 3) (fu T.err (by decide) G T.b_isinstance (aa 1)))) (aA (cw (gy (fD (EX T.err T.b_isinstance T.b_ValueError (aa 1)))) (aN (aY (fU))) (bG)) (aA (qO (mn 4 (t:=cC) (m:=cD) cb.nd (kj (Nc:=["_law_k","_law_marks"]) (js:=[none,ar 3]) (av (top 47)) ["_law_call","_law_error","e","_law_marks","_law_found"] (fun _=>rfl) rfl (by decide+kernel)) rfl (cU T.b_range (az)) (fun C ex s2 Q=>⟨aZ 0 (show(["_law_k","_law_marks"]:List Str).Nodup by decide+kernel),jb (fD (aU (aa 1) (aa 0))),aa 0⟩))) (aN (aY (JE (qi (eh Z) (aa 4) (aE (bt (af (az) (ai) ay)))) (aE (bW (aa 4) (aE (bt (af (Fd T.err T.dk (aa 1)) (af (Fe T.err T.dk (aa 1)) (ai) nu) nu))))) (aa 4))))))))))))
end
theorem FR{i j:Nat}{Z:By}:qJ (eT Z) (gR 2 (bS (gN i) (bS (gN j) ie)))=wb i j Z:=by
 funext ρ;unfold qJ eT wb;rw[gz];refine OG _ ?_;funext ds
 match ds with
 |[]=>rfl
 |[d]=>rfl
 |[d,e]=>rfl
 |d::e::f::r=>
  funext S;show(bK _>>=_) S=_;unfold bK;split<;>rfl
theorem FS{X:Cx}{E:XD}{Y:ri}{i j:Nat}{Z:By}(h:SS X E Y (qJ (eT Z) (gR 2 (bS (gN i) (bS (gN j) ie))))):SS X E Y (wb i j Z):=FR ▸ h
theorem Bt{P:eM}{w:fg}{K:d_}{Q:Str->Option a_}{base:gd}{f c h:dt}{j:gc}(F:Fun K "law" "law" (top 52) f j)(T:Txt K Q)(G:Mod K Q base)(o:BaseL K Q base)(TI:uN K)(i:p_ K g_ "law"=ar (ar (.ref f)))(x:m2 K "law"=ar (c,h))(Y:∀base,Mod K Q base->DefX P w K Q base 8 "map_holds" ["one","other","thing"] dm)(X:∀base,Mod K Q base->DefX P w K Q base 12 "map_to" ["one","other"] eZ)(J:∀base,Mod K Q base->DefX P w K Q base 2 "_law_state" ["_law_script","_law_k"] gj)(U:∀base,Mod K Q base->DefX P w K Q base 2 "_law_mixed_row" ["_law_state_here","_law_things"] bj)(S:∀base,Mod K Q base->DefX P w K Q base 2 "_law_great_web" ["_law_state_here"] cn)(O:∀base,Mod K Q base->DefX P w K Q base 2 "_law_bad_web" ["_law_state_here"] dF)(R:∀base,Mod K Q base->DefX P w K Q base 7 "_law_same" ["_law_found","_law_due"] dP)(Z:RefX P w K Q 14 13 "_law_refused" ["_law_call"] bR)(dg:∀f c es,bR f c es=bc c es)(N:∀base,Mod K Q base->DefX P w K Q base 2 "_law_is_map" ["_law_one","_law_other","_law_thing"] eF)(I:∀base,Mod K Q base->DefX P w K Q base 2 "_law_first" ["_law_one","_law_other"] fB)(B:∀base,Mod K Q base->DefX P w K Q base 2 "_law_bent" ["_law_state_here","_law_row"] di)(y:∀base,Mod K Q base->DefX P w K Q base 4 "_law_pair" ["_law_state_here"] eY):FnOk P w K Q base (lH P w) 15 f j ["_law_script"] (CQ K tF):=
 HW (m:=Dl) F ic rfl i x fun A outer s H E L=>
  aA (iI (b:=kQ) Nx rfl (cU T.b_range (qo rfl T.b_max (af (az) (af (nV rfl T.b_min (af (gf T.b_len (aa 0)) (af (az) (ai) ay) ba)) (ai) ba) ay))) (aZ 1 ic.nd) (aA (br 2 ic.nd (aL (J _ G) (L.mono (by decide)) (af (aa 0) (af (aa 1) (ai) ag) ag)) (hs:=fw)) (aA (ma (aE (aL (y _ G) (L.mono (by decide)) (af (aa 2) (ai) ag))) (jO rfl (cg (aZ 3 ic.nd) (cg (aZ 4 ic.nd) (ij))))) (aA (br 5 ic.nd (aE (aL (I _ G) (L.mono (by decide)) (af (aa 3) (af (aa 4) (ai) ag) ag))) (hs:=fw)) (aA (cw (gy (fD (aE (aL (R _ G) (L.mono (by decide)) (af (aE (aL (X _ G) (L.mono (by decide)) (af (aa 3) (af (aa 4) (ai) ag) ag))) (af (aa 5) (ai) ag) ba))))) (aN (aY (eS))) (bG)) (aA (qO (mn 6 (t:=nB) (m:=nD) ic.nd (kj (Nc:=["_law_turn","_law_state_here","_law_one"]) (js:=[none,ar 2,ar 3]) (av (top 52)) ["_law_script","_law_k","_law_state_here","_law_one","_law_other","_law_due","_law_rows","_law_row","_law_thing","_law_great","_law_bad"] (fun _=>rfl) rfl (by decide+kernel)) rfl (cU T.b_range (az)) (fun C ex s2 n=>⟨aZ 0 (show(["_law_turn","_law_state_here","_law_one"]:List Str).Nodup by decide+kernel),gI,iJ T.b_tuple (aE (aL (U _ G) (L.mono (by decide)) (af (aa 1) (af (aE (iq rfl T.b_list T.b_range (aU (aa 2) (az)))) (ai) ba) ag)))⟩))) (aA (cw (vS (aa 5) (fU)) (aN (br 6 ic.nd (aE (bW (aa 6) (aE (bt (af (aa 5) (af (aa 5) (ai) ag) ag))))) (hs:=ez))) (bG)) (aA (iI (b:=nE) Nx rfl (iK (aa 6)) (aZ 7 ic.nd) (aN (iI (b:=qY) Nx rfl (iK (aE (bt (af (aa 7) (af (aE (aL (B _ G) (L.mono (by decide)) (af (aa 2) (af (aa 7) (ai) ag) ag))) (ai) ba) ag)))) (aZ 8 ic.nd) (aN (cw (gy (fD (aE (aL (R _ G) (L.mono (by decide)) (af (aE (aL (Y _ G) (L.mono (by decide)) (af (aa 3) (af (aa 4) (af (aa 8) (ai) ag) ag) ag))) (af (aE (aL (N _ G) (L.mono (by decide)) (af (aa 3) (af (aa 4) (af (aa 8) (ai) ag) ag) ag))) (ai) ba) ba))))) (aN (aY (eS))) (bG)))))) (aA (FS (ma (dw (af (aE (aL (S _ G) (L.mono (by decide)) (af (aa 2) (ai) ag))) (af (aE (aL (O _ G) (L.mono (by decide)) (af (aa 2) (ai) ag))) (ai) ba) ba)) (jO rfl (cg (aZ 9 ic.nd) (cg (aZ 10 ic.nd) ij))))) (aA (cw (f9 (eh L) (aE (uQ (ql:="law.<locals>.<lambda>") (m:=qZ) (xl:="law") Z dg (L.mono (by decide)) (fun _=>rfl) (by decide) x rfl rfl rfl o TI rfl (EY (N3:=["_law_one","_law_great"]) (js:=[3,9]) (av (top 52)) ["_law_script","_law_k","_law_state_here","_law_one","_law_other","_law_due","_law_rows","_law_row","_law_thing","_law_great","_law_bad"] (fun _=>rfl) rfl (by decide+kernel)) (ai) (fun _ _ _ _=>rfl) (fun v p f2 l r k z s2 n q u=>aE (cK (X _ p) (u.mono (by decide)) jR.pass (af (aa 0) (af (aa 1) (ai) ag) ag))))) (aE (bt (af (az) (af (aU (aa 9) (az)) (af (az) (ai) ay) bf) ay)))) (aN (aY (eS))) (bG)) (aA (cw (f9 (eh L) (aE (uQ (ql:="law.<locals>.<lambda>") (m:=rf) (xl:="law") Z dg (L.mono (by decide)) (fun _=>rfl) (by decide) x rfl rfl rfl o TI rfl (EY (N3:=["_law_great","_law_one"]) (js:=[9,3]) (av (top 52)) ["_law_script","_law_k","_law_state_here","_law_one","_law_other","_law_due","_law_rows","_law_row","_law_thing","_law_great","_law_bad"] (fun _=>rfl) rfl (by decide+kernel)) (ai) (fun _ _ _ _=>rfl) (fun v p f2 l r k z s2 n q u=>aE (cK (Y _ p) (u.mono (by decide)) jR.pass (af (aa 0) (af (aa 1) (af (fU) (ai) ay) ag) ag))))) (aE (bt (af (az) (af (aU (aa 9) (az)) (af (az) (ai) ay) bf) ay)))) (aN (aY (eS))) (bG)) (aA (cw (f9 (eh L) (aE (uQ (ql:="law.<locals>.<lambda>") (m:=rg) (xl:="law") Z dg (L.mono (by decide)) (fun _=>rfl) (by decide) x rfl rfl rfl o TI rfl (EY (N3:=["_law_great","_law_bad"]) (js:=[9,10]) (av (top 52)) ["_law_script","_law_k","_law_state_here","_law_one","_law_other","_law_due","_law_rows","_law_row","_law_thing","_law_great","_law_bad"] (fun _=>rfl) rfl (by decide+kernel)) (ai) (fun _ _ _ _=>rfl) (fun v p f2 l r k z s2 n q u=>aE (cK (X _ p) (u.mono (by decide)) jR.pass (af (aa 0) (af (aa 1) (ai) ag) ag))))) (aE (bt (af (az) (ai) ay)))) (aN (aY (eS))) (bG)) (aN (cw (f9 (eh L) (aE (uQ (ql:="law.<locals>.<lambda>") (m:=rh) (xl:="law") Z dg (L.mono (by decide)) (fun _=>rfl) (by decide) x rfl rfl rfl o TI rfl (EY (N3:=["_law_bad","_law_great"]) (js:=[10,9]) (av (top 52)) ["_law_script","_law_k","_law_state_here","_law_one","_law_other","_law_due","_law_rows","_law_row","_law_thing","_law_great","_law_bad"] (fun _=>rfl) rfl (by decide+kernel)) (ai) (fun _ _ _ _=>rfl) (fun v p f2 l r k z s2 n q u=>aE (cK (Y _ p) (u.mono (by decide)) jR.pass (af (aa 0) (af (aa 1) (af (fU) (ai) ay) ag) ag))))) (aE (bt (af (az) (ai) ay)))) (aN (aY (eS))) (bG))))))))))))))) (aN (aY (vR (eh L) (aE (aL (X _ G) (L.mono (by decide)) (af (cH 6 rfl) (af (cH 6 rfl) (ai) bo) bo))) (cH 6 rfl))))
def Gs:Stmt:=JX (top 14)
theorem FT:FnScope ["self","many","most"] ["self","many","most"] (av Gs):=⟨rfl,rfl,rfl,by decide+kernel,rfl,by decide+kernel,by decide+kernel⟩
abbrev lP:Program:=PySem.Challenge.rw_tiewebs_k03_maps_known.prog
abbrev kW(w:fg):W.Frag:=KH.K0 w.params
theorem fk{K:d_}{f c:dt}{m:a_}(x q:Str)(Z:ri)(l:K.lookup f=ar ⟨.type "function",none,.func (D_ x q (ja Z) (dQ Z) (av Z) .none .none .none m none (.ref c) .none), #[]⟩)(h:Rl K (.ref c) q=b_)(k:z5 K (.ref f)=b_):Fun K x q Z f (D_ x q (ja Z) (dQ Z) (av Z) .none .none .none m none (.ref c) .none):=Hg l h k
abbrev nK(w:fg)(x:Str):Option (Option a_):=p_ (kW w) g_ x
theorem Mm(w:fg)(Z:Str->Option a_)(fa:dt)(h:gd)(X:(kW w).In h)(G:h.Ns g_ Z)(a:Z "law"=ar (.ref fa)):∃fd:gc,(∀(s:c_) (u:a_),F_ s fd ⟨[u],[]⟩ [("_law_script",u)])/\∀base:gd,Mod (kW w) Z base->BaseL (kW w) Z base->FnOk lP w (kW w) Z base (lH lP w) 15 fa fd ["_law_script"] (CQ (kW w) tF):=by
 have aG:nK w "TooGreat"=ar (ar (.ref 188)):=by kernel_rfl
 have c:lA (kW w) 188 185=true:=by kernel_rfl
 have FG:=@fk (kW w) 185 184 (KH.zs "tiewebs.errors" 187) "__init__" "TooGreat.__init__" Gs (by kernel_rfl) (by kernel_rfl) (by kernel_rfl)
 have a5:nK w "is_whole"=ar (ar (.ref 197)):=by kernel_rfl
 have b5:=@fk (kW w) 197 196 (KH.zs "tiewebs.webs" 426) "is_whole" "is_whole" (top 17) (by kernel_rfl) (by kernel_rfl) (by kernel_rfl)
 have e4:nK w "is_pair"=ar (ar (.ref 204)):=by kernel_rfl
 have h1:=@fk (kW w) 204 203 (KH.zs "tiewebs.webs" 426) "is_pair" "is_pair" (top 18) (by kernel_rfl) (by kernel_rfl) (by kernel_rfl)
 have b4:nK w "is_place"=ar (ar (.ref 211)):=by kernel_rfl
 have g4:=@fk (kW w) 211 210 (KH.zs "tiewebs.webs" 426) "is_place" "is_place" (top 19) (by kernel_rfl) (by kernel_rfl) (by kernel_rfl)
 have f6:nK w "is_tie"=ar (ar (.ref 218)):=by kernel_rfl
 have d8:=@fk (kW w) 218 217 (KH.zs "tiewebs.webs" 426) "is_tie" "is_tie" (top 20) (by kernel_rfl) (by kernel_rfl) (by kernel_rfl)
 have d2:nK w "is_rising"=ar (ar (.ref 223)):=by kernel_rfl
 have g5:=@fk (kW w) 223 222 (KH.zs "tiewebs.webs" 426) "is_rising" "is_rising" (top 21) (by kernel_rfl) (by kernel_rfl) (by kernel_rfl)
 have d5:nK w "is_web"=ar (ar (.ref 228)):=by kernel_rfl
 have h6:=@fk (kW w) 228 227 (KH.zs "tiewebs.webs" 426) "is_web" "is_web" (top 22) (by kernel_rfl) (by kernel_rfl) (by kernel_rfl)
 have c4:nK w "need_web"=ar (ar (.ref 235)):=by kernel_rfl
 have d3:=@fk (kW w) 235 234 (KH.zs "tiewebs.webs" 426) "need_web" "need_web" (top 23) (by kernel_rfl) (by kernel_rfl) (by kernel_rfl)
 have d7:nK w "need_few_places"=ar (ar (.ref 242)):=by kernel_rfl
 have d6:=@fk (kW w) 242 241 (KH.zs "tiewebs.webs" 426) "need_few_places" "need_few_places" (top 24) (by kernel_rfl) (by kernel_rfl) (by kernel_rfl)
 have c0:nK w "are_tied"=ar (ar (.ref 249)):=by kernel_rfl
 have d4:=@fk (kW w) 249 248 (KH.zs "tiewebs.webs" 426) "are_tied" "are_tied" (top 25) (by kernel_rfl) (by kernel_rfl) (by kernel_rfl)
 have c1:nK w "degrees"=ar (ar (.ref 254)):=by kernel_rfl
 have c5:=@fk (kW w) 254 253 (KH.zs "tiewebs.webs" 426) "degrees" "degrees" (top 26) (by kernel_rfl) (by kernel_rfl) (by kernel_rfl)
 have g8:nK w "need_mapped"=ar (ar (.ref 261)):=by kernel_rfl
 have g6:=@fk (kW w) 261 260 (KH.zs "tiewebs.maps" 504) "need_mapped" "need_mapped" (top 29) (by kernel_rfl) (by kernel_rfl) (by kernel_rfl)
 have a7:nK w "goes_on"=ar (ar (.ref 266)):=by kernel_rfl
 have b3:=@fk (kW w) 266 265 (KH.zs "tiewebs.maps" 504) "goes_on" "goes_on" (top 30) (by kernel_rfl) (by kernel_rfl) (by kernel_rfl)
 have e5:nK w "map_holds"=ar (ar (.ref 271)):=by kernel_rfl
 have e2:=@fk (kW w) 271 270 (KH.zs "tiewebs.maps" 504) "map_holds" "map_holds" (top 31) (by kernel_rfl) (by kernel_rfl) (by kernel_rfl)
 have c7:nK w "first_map_from"=ar (ar (.ref 278)):=by kernel_rfl
 have h2:=@fk (kW w) 278 277 (KH.zs "tiewebs.maps" 504) "first_map_from" "first_map_from" (top 32) (by kernel_rfl) (by kernel_rfl) (by kernel_rfl)
 have i4:nK w "map_to"=ar (ar (.ref 285)):=by kernel_rfl
 have i2:=@fk (kW w) 285 284 (KH.zs "tiewebs.maps" 504) "map_to" "map_to" (top 33) (by kernel_rfl) (by kernel_rfl) (by kernel_rfl)
 have h8:nK w "_law_cell_at"=ar (ar (.ref 292)):=by kernel_rfl
 have i3:=@fk (kW w) 292 291 (KH.zs "law_tiewebs_k03_maps_known" 548) "_law_cell_at" "_law_cell_at" (top 35) (by kernel_rfl) (by kernel_rfl) (by kernel_rfl)
 have a4:nK w "_law_state"=ar (ar (.ref 299)):=by kernel_rfl
 have h9:=@fk (kW w) 299 298 (KH.zs "law_tiewebs_k03_maps_known" 548) "_law_state" "_law_state" (top 36) (by kernel_rfl) (by kernel_rfl) (by kernel_rfl)
 have c2:nK w "_law_take"=ar (ar (.ref 306)):=by kernel_rfl
 have g7:=@fk (kW w) 306 305 (KH.zs "law_tiewebs_k03_maps_known" 548) "_law_take" "_law_take" (top 37) (by kernel_rfl) (by kernel_rfl) (by kernel_rfl)
 have c6:nK w "_law_pairs"=ar (ar (.ref 311)):=by kernel_rfl
 have f3:=@fk (kW w) 311 310 (KH.zs "law_tiewebs_k03_maps_known" 548) "_law_pairs" "_law_pairs" (top 38) (by kernel_rfl) (by kernel_rfl) (by kernel_rfl)
 have a9:nK w "_law_mixed_row"=ar (ar (.ref 318)):=by kernel_rfl
 have h7:=@fk (kW w) 318 317 (KH.zs "law_tiewebs_k03_maps_known" 548) "_law_mixed_row" "_law_mixed_row" (top 39) (by kernel_rfl) (by kernel_rfl) (by kernel_rfl)
 have j2:nK w "_law_web"=ar (ar (.ref 323)):=by kernel_rfl
 have b1:=@fk (kW w) 323 322 (KH.zs "law_tiewebs_k03_maps_known" 548) "_law_web" "_law_web" (top 40) (by kernel_rfl) (by kernel_rfl) (by kernel_rfl)
 have h5:nK w "_law_great_web"=ar (ar (.ref 330)):=by kernel_rfl
 have e1:=@fk (kW w) 330 329 (KH.zs "law_tiewebs_k03_maps_known" 548) "_law_great_web" "_law_great_web" (top 41) (by kernel_rfl) (by kernel_rfl) (by kernel_rfl)
 have e0:nK w "_law_named"=ar (ar (.ref 335)):=by kernel_rfl
 have h4:=@fk (kW w) 335 334 (KH.zs "law_tiewebs_k03_maps_known" 548) "_law_named" "_law_named" (top 42) (by kernel_rfl) (by kernel_rfl) (by kernel_rfl)
 have a3:nK w "_law_tied"=ar (ar (.ref 342)):=by kernel_rfl
 have c3:=@fk (kW w) 342 341 (KH.zs "law_tiewebs_k03_maps_known" 548) "_law_tied" "_law_tied" (top 43) (by kernel_rfl) (by kernel_rfl) (by kernel_rfl)
 have f5:nK w "_law_whole"=ar (ar (.ref 349)):=by kernel_rfl
 have h3:=@fk (kW w) 349 348 (KH.zs "law_tiewebs_k03_maps_known" 548) "_law_whole" "_law_whole" (top 44) (by kernel_rfl) (by kernel_rfl) (by kernel_rfl)
 have b6:nK w "_law_bad_web"=ar (ar (.ref 356)):=by kernel_rfl
 have b2:=@fk (kW w) 356 355 (KH.zs "law_tiewebs_k03_maps_known" 548) "_law_bad_web" "_law_bad_web" (top 45) (by kernel_rfl) (by kernel_rfl) (by kernel_rfl)
 have e6:nK w "_law_same"=ar (ar (.ref 361)):=by kernel_rfl
 have e7:=@fk (kW w) 361 360 (KH.zs "law_tiewebs_k03_maps_known" 548) "_law_same" "_law_same" (top 46) (by kernel_rfl) (by kernel_rfl) (by kernel_rfl)
 have a0:nK w "_law_refused"=ar (ar (.ref 366)):=by kernel_rfl
 have e8:=@fk (kW w) 366 365 (KH.zs "law_tiewebs_k03_maps_known" 548) "_law_refused" "_law_refused" (top 47) (by kernel_rfl) (by kernel_rfl) (by kernel_rfl)
 have a8:nK w "_law_is_map"=ar (ar (.ref 371)):=by kernel_rfl
 have j0:=@fk (kW w) 371 370 (KH.zs "law_tiewebs_k03_maps_known" 548) "_law_is_map" "_law_is_map" (top 48) (by kernel_rfl) (by kernel_rfl) (by kernel_rfl)
 have j1:nK w "_law_first"=ar (ar (.ref 376)):=by kernel_rfl
 have d1:=@fk (kW w) 376 375 (KH.zs "law_tiewebs_k03_maps_known" 548) "_law_first" "_law_first" (top 49) (by kernel_rfl) (by kernel_rfl) (by kernel_rfl)
 have i0:nK w "_law_bent"=ar (ar (.ref 383)):=by kernel_rfl
 have a6:=@fk (kW w) 383 382 (KH.zs "law_tiewebs_k03_maps_known" 548) "_law_bent" "_law_bent" (top 50) (by kernel_rfl) (by kernel_rfl) (by kernel_rfl)
 have b:nK w "_law_pair"=ar (ar (.ref 390)):=by kernel_rfl
 have i1:=@fk (kW w) 390 389 (KH.zs "law_tiewebs_k03_maps_known" 548) "_law_pair" "_law_pair" (top 51) (by kernel_rfl) (by kernel_rfl) (by kernel_rfl)
 have d:nK w "law"=ar (ar (.ref 395)):=by kernel_rfl
 have e3:=@fk (kW w) 395 394 (KH.zs "law_tiewebs_k03_maps_known" 548) "law" "law" (top 52) (by kernel_rfl) (by kernel_rfl) (by kernel_rfl)
 obtain⟨⟨ct,Pt⟩,f⟩:=Nk.mp (show(m2 (kW w) "law").isSome=b_ by kernel_rfl)
 have e:=a.symm.trans (MI X G d);cases e;have T:Txt (kW w) Z:=⟨by kernel_rfl,by kernel_rfl,M4 X G (by kernel_rfl),M4 X G (by kernel_rfl),M4 X G (by kernel_rfl),M4 X G (by kernel_rfl),M4 X G (by kernel_rfl),M4 X G (by kernel_rfl),M4 X G (by kernel_rfl),M4 X G (by kernel_rfl),M4 X G (by kernel_rfl),M4 X G (by kernel_rfl),M4 X G (by kernel_rfl),M4 X G (by kernel_rfl),M4 X G (by kernel_rfl),M4 X G (by kernel_rfl),M4 X G (by kernel_rfl),⟨506,MI X G (by kernel_rfl)⟩,⟨428,MI X G (by kernel_rfl)⟩⟩
 have GR:∀base,GrX lP w (kW w) Z base:=fun base=>Dg FG X T.err aG c FT (by decide+kernel) (FG.binds fun _ _ _ _ _ _ us hl=>match us,hl with|[_,_,_],_=>rfl) rfl
 refine⟨D_ "law" "law" (ja (top 52)) (dQ (top 52)) (av (top 52)) .none .none .none (KH.zs "law_tiewebs_k03_maps_known" 548) none (.ref 394) .none,fun s v=>.of_eq rfl,fun base GM BL=>?_⟩;have K:∀base,Mod (kW w) Z base->DefX lP w (kW w) Z base 1 "is_whole" ["thing"] cY:=fun base U=>xg b5 (MI X G a5) T;have E:∀base,Mod (kW w) Z base->DefX lP w (kW w) Z base 1 "is_pair" ["thing"] dD:=fun base U=>yz h1 (MI X G e4) T;have q:∀base,Mod (kW w) Z base->DefX lP w (kW w) Z base 1 "is_rising" ["things"] fY:=fun base U=>vt g5 (MI X G d2) T;have l:∀base,Mod (kW w) Z base->DefX lP w (kW w) Z base 1 "are_tied" ["web","one","other"] eV:=fun base U=>xh d4 (MI X G c0) T;have I:∀base,Mod (kW w) Z base->DefX lP w (kW w) Z base 1 "_law_cell_at" ["_law_script","_law_k"] dE:=fun base U=>pB i3 (MI X G h8) T;have Y:∀base,Mod (kW w) Z base->DefX lP w (kW w) Z base 1 "_law_take" ["_law_state_here","_law_many"] aJ:=fun base U=>vv g7 (MI X G c2) T;have x:∀base,Mod (kW w) Z base->DefX lP w (kW w) Z base 1 "_law_pairs" ["_law_many"] bx:=fun base U=>su f3 (MI X G c6) T;have A:∀base,Mod (kW w) Z base->DefX lP w (kW w) Z base 1 "_law_named" ["_law_web_here","_law_names"] dZ:=fun base U=>sv h4 (MI X G e0) T;have L:∀base,Mod (kW w) Z base->DefX lP w (kW w) Z base 1 "_law_tied" ["_law_web_here","_law_one","_law_other"] bU:=fun base U=>vw c3 (MI X G a3) T;have y:∀base,Mod (kW w) Z base->DefX lP w (kW w) Z base 1 "_law_whole" ["_law_thing"] gi:=fun base U=>sx h3 (MI X G f5) T;have J:∀base,Mod (kW w) Z base->DefX lP w (kW w) Z base 2 "is_place" ["many","thing"] eX:=fun base U=>xi g4 (MI X G b4) T (K base U);have C:∀base,Mod (kW w) Z base->DefX lP w (kW w) Z base 2 "goes_on" ["one","other","start","place"] df:=fun base U=>yA b3 (MI X G a7) T (l base U);have z:∀base,Mod (kW w) Z base->DefX lP w (kW w) Z base 2 "_law_state" ["_law_script","_law_k"] gj:=fun base U=>sy h9 (MI X G a4) T (I base U);have S:∀base,Mod (kW w) Z base->DefX lP w (kW w) Z base 2 "_law_mixed_row" ["_law_state_here","_law_things"] bj:=fun base U=>nL h7 (MI X G a9) T (Y base U);have O:∀base,Mod (kW w) Z base->DefX lP w (kW w) Z base 2 "_law_great_web" ["_law_state_here"] cn:=fun base U=>nM e1 (MI X G h5) T (Y base U);have H:∀base,Mod (kW w) Z base->DefX lP w (kW w) Z base 2 "_law_bad_web" ["_law_state_here"] dF:=fun base U=>pC b2 (MI X G b6) T (Y base U);have B:∀base,Mod (kW w) Z base->DefX lP w (kW w) Z base 2 "_law_is_map" ["_law_one","_law_other","_law_thing"] eF:=fun base U=>rP j0 (MI X G a8) T (L base U) (y base U);have t:∀base,Mod (kW w) Z base->DefX lP w (kW w) Z base 2 "_law_first" ["_law_one","_law_other"] fB:=fun base U=>sC d1 (MI X G j1) T (L base U);have p:∀base,Mod (kW w) Z base->DefX lP w (kW w) Z base 2 "_law_bent" ["_law_state_here","_law_row"] di:=fun base U=>vx a6 (MI X G i0) T (Y base U);have i:∀base,Mod (kW w) Z base->DefX lP w (kW w) Z base 3 "is_tie" ["many","thing"] kP:=fun base U=>Bq d8 (MI X G f6) T (E base U) (J base U);have m:∀base,Mod (kW w) Z base->DefX lP w (kW w) Z base 3 "_law_web" ["_law_state_here","_law_most"] d0:=fun base U=>xj b1 (MI X G j2) T (Y base U) (x base U) (S base U);have g:∀base,Mod (kW w) Z base->DefX lP w (kW w) Z base 4 "is_web" ["thing"] jH:=fun base U=>Br h6 (MI X G d5) T (K base U) (E base U) (i base U) (q base U);have n:∀base,Mod (kW w) Z base->DefX lP w (kW w) Z base 4 "_law_pair" ["_law_state_here"] eY:=fun base U=>vy i1 (MI X G b) T (Y base U) (S base U) (m base U) (A base U);have R:∀base,Mod (kW w) Z base->DefX lP w (kW w) Z base 5 "need_web" ["thing"] b0:=fun base U=>xk d3 (MI X G c4) T (g base U);have P:∀base,Mod (kW w) Z base->DefX lP w (kW w) Z base 6 "need_few_places" ["web","most"] cB:=fun base U=>mF d6 (MI X G d7) T (GR base) (R base U);have k:∀base,Mod (kW w) Z base->DefX lP w (kW w) Z base 6 "degrees" ["web"] eI:=fun base U=>yB c5 (MI X G c1) T (R base U);have Q:∀base,Mod (kW w) Z base->DefX lP w (kW w) Z base 7 "need_mapped" ["one","other"] bq:=fun base U=>rQ g6 (MI X G g8) T (R base U) (P base U);have o:∀base,Mod (kW w) Z base->DefX lP w (kW w) Z base 7 "_law_same" ["_law_found","_law_due"] dP:=fun base U=>vz e7 (MI X G e6) T;have r:∀base,Mod (kW w) Z base->DefX lP w (kW w) Z base 8 "map_holds" ["one","other","thing"] dm:=fun base U=>vA e2 (MI X G e5) T (J base U) (Q base U) (C base U);have N:∀base,Mod (kW w) Z base->DefX lP w (kW w) Z base 11 "first_map_from" ["one","other","start"] dJ:=fun base U=>nN h2 (MI X G c7) T (C base U);have j:∀base,Mod (kW w) Z base->DefX lP w (kW w) Z base 12 "map_to" ["one","other"] eZ:=fun base U=>Bs i2 (MI X G i4) T (k base U) (Q base U) (N base U);have F:RefX lP w (kW w) Z 14 13 "_law_refused" ["_law_call"] bR:=pD e8 (MI X G a0) T;exact Bt e3 T GM BL (HV (show Ga (kW w)=b_ by kernel_rfl)) d f r j z S O H o F dg B t p n
end W
section
namespace W
open PySem PySem.Spec PyProof.Rows L2 S3 S4 S7
theorem IL(K:d_)(H:Hp)(a:dt)(ns:List Int)(X:TabsOk K H)(Z:D8 K H a (ns.map V.int)):CQ K tF [.ref a] H (fun v _=>v= .bl b_) fun _ _ _=>False:=by
 obtain⟨d,Y,e,hd⟩:=Kr (S:=[]) (ns:=ns);refine⟨[],[],[.ro (ns.map D.int)],⟨.nil,rfl,(fun k a xs h=>by cases h),X⟩,.cons (.ro Z (m6 ns)) .nil,?_⟩
 refine⟨.ok d,Y,e,fun U R _ _=>?_⟩;subst hd;intro v T;cases T;rfl
theorem walk{l:R5}{q:eM}{loose:List Str}{XP:(Str->Option a_)->gd->Prop}{YP:fg->gd->Prop}{d:Sy}{K:O'->d_}(U:l.most=ar 63)(Y:d.params.defaults=[])
  (S:∀(w:fg) (h:gd),YP w h->(K w.params).In h) (R:∀w:fg,Sw (K w.params)=b_)
  (Z:∀(w:fg) (h:gd),YP w h->∀y∈cI,∀c Q,m2 (K w.params) y=ar (c,Q)->QQ h c Q/\h.get? Q=ar (xy #[]))
  (F:∀(w:fg) (mg:Str->Option a_) (fa:dt) (h:gd),(K w.params).In h->h.Ns g_ mg->mg d.name=ar (.ref fa)->
   ∃fd:gc,(∀(s:c_) (u:a_),F_ s fd ⟨[u],[]⟩ [("_law_script",u)])/\∀base:gd,Mod (K w.params) mg base->BaseL (K w.params) mg base->FnOk l.prog w (K w.params) mg base (lH l.prog w) 15 fa fd ["_law_script"] (CQ (K w.params) tF)):
  SL q loose XP YP l.row.toRowW d [] (fun f vs=>PySem.call f vs):=
 C0 (n:=63) (k:=15) (x:="_law_script") (sp:=fun w=>CQ (K w.params) tF) U (by decide) Y ⟨rfl,by decide,by decide⟩ S R Z F fun w H a ns _ X T=>IL (K w.params) H a ns X T
end W
open PySem PySem.W PyProof.Rows
set_option maxRecDepth 100000 in
set_option maxHeartbeats 0 in
theorem PySem.Challenge.cw_tiewebs_k03_maps_known_holds : PySem.Challenge.rw_tiewebs_k03_maps_known.Holds := by
 w_on;o_law
 refine holds_open (q:=KH.vq) (loose:=[]) (Xt:=KH.Xt0) (XP:=XL KH.vq []) (Yf:=Sh (Qd KH.K0 KH.as0 KH.as0_eq KH.ts0)) (Ya:=Si (Qd KH.K0 KH.as0 KH.as0_eq KH.ts0)) (YP:=Hook.says (Qd KH.K0 KH.as0 KH.as0_eq KH.ts0)) (N:=8128) KH.left0 (Hook.of (Qd KH.K0 KH.as0 KH.as0_eq KH.ts0)) (Hook.keeps (Qd KH.K0 KH.as0 KH.as0_eq KH.ts0)) (fun s e=>xl_of s (Bool.and_eq_true_iff.mp e).1) XL.keeps (by rfl) (by rfl) (by rfl) (fun s e=>recFacts_of (Bool.and_eq_true_iff.mp e).2) (by rfl) (by first|assumption|decide+kernel) (by decide+kernel) ⟨rfl,rfl,rfl,rfl,rfl,by decide+kernel⟩ ?hw ?hc
 case hw=>w_witness2
 refine W.walk (l:=PySem.Challenge.rw_tiewebs_k03_maps_known) rfl rfl (fun w h Y=>PySem.W.km_in_of Y) ?nt (fun w h Y=>S7.LC (w:=w) ?ck Y) W.Mm
 case nt=>intro w;kernel_rfl
 case ck=>kernel_rfl
end
