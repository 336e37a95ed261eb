import PyProof.Rows.All
import Wide.All
import OpenK.AllK
import Wide.FinOn
import PySem.Challenge.RW_tiewebs_k11_whole_sharings_and_roots
import Lean
import PyProof.EqAt
import PyProof.EqKinds
import PyProof.TupleCall
import PyProof.SetScanFacts
import PyProof.EnumMake
import PyProof.Draws
import PyProof.ExcInit
import PyProof.ExcClass3
import PyProof.InstStore
import KE.KUnpack
import PyProof.P3In
set_option Elab.async false
set_option compiler.extract_closed false
set_option linter.all false
set_option maxRecDepth 100000
set_option maxHeartbeats 8000000
noncomputable section
open Option renaming some->ar
open Pure renaming pure->aC
open PySem renaming Value->a_,Addr->b',Shared->cn,starEach->dt,Program->dV,World->d_,FuncData->eb,wpAny->ed,Heap->eg,model->er,mainGlobals->e_,Around->f_,foldedSetIterable->gi,compareOp->hh,eval->hD,cellsFrom->i',importedModules->j',behindInMarks->kT,bootBuiltins->k_,NameKind->lB,PyData->nf,swapsWith->nC,Stmt->n_,backTo->oo,assignEach->oD,IsPair->pb,binaryOp->q_,codeAny->sb,attributeBase->u0,builtinsNs->u5,sliceBounds->vn,excClassObj->vr,holding->wh,rawInt->wk,callerA->wz,ExcBaseFacts->wN,standAt->xi,cLine->xy,letOwnedTupleGo->x_,noteFrame->zl,BindsTo->B_,Params->D_,swapsWithSole->D',swappedStores->EA,treeTable->F_,IsZip->G',assign->Ic,GenState->J',OsState->M',intKind->O',PassesOwn->P_,Arguments->P',assignInOrder->RE,again->RI,seq_tuple_add->RJ,wpAny_newList->RK,wpAny_attempt->RL,pyNext->RM,pyIter->RN,IsPart->RO,leaving->RR,concat_meets->RS,getItem->RT,compTurn->RW,SetTable->RX,lastMarks->R7,seqIndex?->R9,isSubtype->Sd,seqIndex_of->Sh,wpAny_of_eq->Si,field->Sj,wpAny_letGo->Sk,Keyword->Sn,OwnTail->So,sysModules->Sq,wpAny_Name->Sr,bindName->Ss,bindL->Su,bindC->Sv,ZipApart->Sy,isInstance->Sz,Model->SH,truthy->SL,Result->SM,CmpOp->SU,compPost->SW,DefRec->SY,setItem->S9,Meets->Tf
open Bool renaming true->b_,false->c_,and_eq_true->h_,false_eq_true->j_,or_eq_true->ye,not_eq_true'->C_
open PySem.W renaming Frag->cC,tabIn->mh,kas_place->pz,kas_asc->qq,kas_desc->ri,nsIn->r7,kas_rev->s_,kas_sort->u3,openSeen->v_,openGood->v',keepIn->wm,fnOf->wR,kitOne->xn,boot_heap->y',findIn->z4,tabObj->z_,behindTheImports->F0,findIn->G_,kmHook->K_,codeIn->K',kas_bin->Q_,kas_descPart->RV,CodeHd->RZ,kas_count->Sa,methodObj->Sg,instObj->SF,OpenLaw->SJ,kas_tail3->SK,excIn->SN,lookIn->SV,noTabs->SX,KasT->SZ,OpenLaw->S_,WalkO->Ta,mroIn->Tc,clsIn->Td,Frag->Tg
open List renaming range->dq,not_mem_nil->ee,mem_cons->eu,range'->hO,getD_eq_getElem?_getD->hY,size_toArray->km,lookup_cons->kS,replicate->k',length_cons->r_,length_nil->x',getD_cons_zero->y3,toArray->y_,zip_cons_cons->z3,length->B',all_eq_true->Fn,forIn_cons->J_,drop_zero->L',map_cons->Re,all_cons->RC,any_cons->RD,any_map->R0,all_nil->R4
open PySem.PyData renaming eqv->eo,depthAll->la,eqvAll->ly,int->mj,list->pd,tuple->wM
open PySem.Value renaming ref->ey,none->i_,bool->u4,int->u_,type->H_,str->R5
open PySem.NameKind renaming free->f',cell->pa
open PySem.Builtin.SmallTypes renaming nextOf->gj,ownedTupleIsFree->kr
open PySem.Str renaming ofString->g_
open False renaming elim->ke
open Ne renaming symm->lx
open PyProof.Rows renaming step_dedup->l_,IntsAre->ma,seqObj->p_,AllBare->w_,envOfC->zm,firstMet->A_,IsTup->SD,bubble->S8,Call_->Te
open PySem.Builtin.Slice renaming slicePlaces->m_,sliceAdjust->t_
open PySem.Builtin.Tuple renaming tupleExact->o_
open PySem.Obj renaming mapSeq->pe,mapFields->E_
open PySem.Builtin.List renaming listTooLong->u2
open Array renaming mk->xj,length_toList->yn
open ForInStep renaming yield->yd
open PySem.Heap renaming SameBut->y4,MadeExcOf->M_,IsTuple->RY
open Int renaming toNat_natCast->A'
open True renaming intro->I_
open Or renaming inr->L_,inl->R_
open Sum renaming inl->N_,inr->O_
open PySem.Around renaming under->RP
open PySem.Code renaming isFrame->RQ
open PySem.W.KasT renaming ret->RU
open Nat renaming zero_add->R3,not_lt->Sw
open PyProof.Rows.IsTup renaming new->R6
open LawfulBEq renaming eq_of_beq->R8
open And renaming intro->Se
open PySem.Shared renaming heap->Sl
open PySem.Walks renaming list->Sx
open PySem.Within renaming nil->SC
open PySem.W.Hook renaming obs->SQ,val->SR
open ForIn renaming forIn->Tb
abbrev NM:=@List.length_map
abbrev NN:=@PySem.wpAny_bind
abbrev NO:=@PySem.Heap.get?_push_of_some
abbrev NP:=@List.length_append
abbrev NQ:=@Nat.le_refl
abbrev NR:=@List.getElem?_eq_getElem
abbrev NS:=@hY
abbrev NT:=@PySem.wpAny_pure
abbrev NU:=@List.mem_filter
abbrev NV:=@PySem.Heap.lt_size
abbrev NW:=@List.mem_singleton
abbrev NX:=@List.getElem?_eq_some_iff
abbrev NY:=@List.mem_map
abbrev NZ:=@Nat.le_trans
abbrev N0:=@List.mem_range
abbrev N1:=@decide_eq_true
abbrev N4:=@PySem.Heap.get?_push_size
abbrev N5:=@km
abbrev N6:=@eu
abbrev N7:=@List.mem_cons_of_mem
abbrev N8:=@decide_eq_true_eq
abbrev N9:=@List.mem_append_right
abbrev Oa:=@List.pairwise_cons
abbrev Ob:=@Nat.ne_of_lt
abbrev Oc:=@List.length_range
abbrev Od:=@List.map_map
abbrev Oe:=@Nat.lt_of_lt_of_le
abbrev Of:=@Fn
abbrev Og:=@Nat.zero_le
abbrev Oh:=@congrFun
abbrev Oi:=@List.append_nil
abbrev Oj:=@Option.some.inj
abbrev Ol:=@List.mem_cons_self
abbrev Om:=@List.length_filter_le
abbrev On:=@Re
abbrev Oo:=@Int.eq_ofNat_of_zero_le
abbrev Oq:=@PySem.wpAny_mono
abbrev Os:=@List.getElem?_append_left
abbrev Ot:=@decide_eq_false
abbrev Ou:=@r_
abbrev Ov:=@PySem.W.mg_none_of
abbrev Ow:=@kS
abbrev Ox:=@List.Pairwise.imp_of_mem
abbrev Oy:=@List.mem_flatMap
abbrev Oz:=@List.pairwise_map
abbrev OA:=@h_
abbrev OB:=@List.mem_append
abbrev OC:=@List.mem_of_getElem?
abbrev OD:=@List.pairwise_append
abbrev OE:=@of_decide_eq_true
abbrev OF:=@List.append_assoc
abbrev OG:=@List.map_append
abbrev OH:=@List.pairwise_singleton
abbrev OI:=@PySem.Heap.get?_update_other
abbrev OJ:=@List.cons.inj
abbrev OK:=@List.Pairwise.filter
abbrev OL:=@PySem.wpAny_field
abbrev OM:=@PySem.wpAny_standAt
abbrev ON:=@List.nodup_cons
abbrev OO:=@List.length_take
abbrev OP:=@PySem.wpAny_truthy_bool
abbrev OQ:=@PySem.wpAny_newObj_type
abbrev OR:=@List.getElem?_map
abbrev OS:=@A'
abbrev OT:=@List.nodup_iff_pairwise_ne
abbrev OU:=@PySem.Heap.get?_none_of_le
abbrev OV:=@List.getElem?_set_ne
abbrev OW:=@PySem.sizeLine_eq
abbrev OX:=@List.getElem?_set_self
abbrev OY:=@PySem.W.kia_one
abbrev OZ:=@PySem.Heap.size_push
abbrev O0:=@Bool.eq_iff_iff
abbrev O1:=@Nat.lt_succ_of_lt
abbrev O2:=@List.mem_range'_1
abbrev O3:=@List.Pairwise.sublist
abbrev O4:=@List.flatMap_cons
abbrev O5:=@PySem.wpAny_holding
abbrev O6:=@PyProof.Rows.callWith_type1
abbrev O7:=@Array.getD_eq_getD_getElem?
abbrev O8:=@PySem.wpAny_call_entry
abbrev O9:=@List.getElem?_append_right
abbrev Pa:=@PyProof.Rows.slot_tuple_getitem
abbrev Pb:=@Classical.byContradiction
abbrev Pc:=@PySem.PassesOwn.never
abbrev Pd:=@Bool.false_ne_true
abbrev Pe:=@PySem.wpAny_pyIter_tuple
abbrev Pf:=@List.getElem_mem
abbrev Pg:=@decide_eq_decide
abbrev Ph:=@List.mem_iff_getElem
abbrev Pi:=@List.mem_of_mem_drop
abbrev Pj:=@Nat.lt_irrefl
abbrev Pk:=@PySem.W.mg_of
abbrev Pl:=@List.map_nil
abbrev Pm:=@List.filter_sublist
abbrev Pn:=@PySem.F.slot_tuple_iterator_next
abbrev Po:=@Array.getElem?_eq_some_iff
abbrev Pp:=@PySem.F.excBase_ValueError
abbrev Pq:=@List.perm_ext_iff_of_nodup
abbrev Pr:=@List.mem_filterMap
abbrev Pu:=@PySem.Heap.get?_update_self
abbrev Pw:=@Array.getElem?_toList
abbrev Px:=@List.getElem?_eq_none
abbrev Py:=@PySem.wpAny_setField_rec
abbrev Pz:=@List.length_range'
abbrev PB:=@List.pairwise_iff_getElem
abbrev PC:=@PySem.wpAny_seqItems
abbrev PD:=@List.mem_append_left
abbrev PF:=@PySem.wpAny_passesOwn
abbrev PH:=@Option.isSome_iff_exists
abbrev PJ:=@PySem.AutoSeq1.wpAny_loadPart'
abbrev PK:=@List.filter_map
abbrev PL:=@Nat.ne_of_gt
abbrev PM:=@Nat.succ_mul
abbrev PN:=@PySem.mem_of_lookup
abbrev PP:=@Bool.true_and
abbrev PQ:=@PySem.Heap.get?_update_ne
abbrev PR:=@List.filter_cons_of_pos
abbrev PU:=@List.filter_cons_of_neg
abbrev PV:=@Nat.succ_le_succ
abbrev PX:=@Nat.lt_succ_self
abbrev PY:=@PySem.Heap.size_after_update
abbrev PZ:=@Nat.lt_of_le_of_lt
abbrev P0:=@Int.lt_or_gt_of_ne
abbrev P1:=@PySem.Obj.data_mapFields
abbrev P2:=@List.getElem?_take
abbrev P3:=@Nat.le_succ
abbrev P4:=@Nat.le_of_eq
abbrev P5:=@List.set_append_right
abbrev P6:=@congrArg
abbrev P7:=@PySem.wpAny_loadPart_at
abbrev P8:=@Bool.false_and
abbrev P9:=@List.drop_eq_getElem_cons
abbrev Qa:=@List.length_drop
abbrev Qb:=@List.getElem_map
abbrev Qc:=@Bool.not_eq_true
abbrev Qd:=@List.nodup_range
abbrev Qe:=@List.ext_getElem
abbrev Qf:=@List.filter_cons
abbrev Qg:=@List.filterMap_cons
abbrev Qh:=@List.map_congr_left
abbrev Qi:=@Nat.le_of_lt
abbrev Qj:=@PySem.codeAny_mono
abbrev Qk:=@PySem.F.args_tuple_add_2
abbrev Ql:=@Nat.sub_self
abbrev Qm:=@List.of_mem_zip
abbrev Qn:=@PySem.F.entry_tuple_add
abbrev Qo:=@Array.Perm.refl
abbrev Qp:=@Nat.min_le_left
abbrev Qq:=@beq_false_of_ne
abbrev Qs:=@Int.emod_lt_of_pos
abbrev Qt:=@List.filter_append
abbrev Qu:=@PySem.W.cellsFrom_some
abbrev Qv:=@PySem.F.slot_tuple_add
abbrev Qw:=@List.drop_eq_nil_of_le
abbrev Qx:=@List.range_succ_eq_map
abbrev Qy:=@List.take_of_length_le
abbrev Qz:=@List.pairwise_lt_range
abbrev QA:=@List.filter_eq_nil_iff
abbrev QB:=@PySem.wpAny_rule
abbrev QC:=@PySem.wpAny_pyIter_list
abbrev QD:=@Nat.le_of_succ_le
abbrev QE:=@List.nodup_append
abbrev QF:=@Prod.ext
abbrev QG:=@PySem.Obj.isFreed_of_fields
abbrev QH:=@List.getElem_inj
abbrev QI:=@PySem.wpAny_isInstance
abbrev QJ:=@PySem.wpAny_pyIter_zip
abbrev QK:=@List.map_flatMap
abbrev QL:=@PySem.Calls.evalArgs_plain
abbrev QM:=@PySem.wpAny_updateSeq_pair
abbrev QN:=@RC
abbrev QO:=@PySem.F.args_tuple_iterator_next_1
abbrev QP:=@List.countP_eq_length_filter
abbrev QQ:=@PyProof.Rows.intsAre_of
abbrev QR:=@PySem.wpAny_execs_nil
abbrev QS:=@yn
abbrev QT:=@List.getElem?_range
abbrev QU:=@PySem.codeAny_of_tree
abbrev QV:=@PySem.F.entry_tuple_iterator_next
abbrev QW:=@PySem.F.slot_zip_next
abbrev QX:=@Int.emod_nonneg
abbrev QY:=@List.idxOf_lt_length_of_mem
abbrev QZ:=@Int.toNat_of_nonneg
abbrev Q0:=@PySem.Calls.Name_function_global
abbrev Q2:=@PyProof.Rows.assignInOrder_cons
abbrev Q3:=@PySem.wpAny_Call_Name_kw
abbrev Q4:=@List.all_map
abbrev Q5:=@Int.zero_add
abbrev Q6:=@PySem.Code.quiet_builtin
abbrev Q7:=@Nat.lt_or_gt_of_ne
abbrev Q8:=@PySem.Calls.call_function_entry
abbrev Q9:=@PySem.wpAny_setField
abbrev Ra:=@PySem.isSubtype_stop
abbrev Rb:=@PySem.wpAny_letOwnedTupleGo_zip
abbrev Rc:=@List.getElem?_zip_eq_some
abbrev Rf:=@List.Perm.eq_of_pairwise
abbrev Rg:=@PySem.wpAny_pyIter_enum
abbrev Rh:=@PySem.wpAny_Call_ofName
abbrev Ri:=@PyProof.Rows.pairs_len
abbrev Rj:=@List.range'_eq_map_range
abbrev Rk:=@Nat.lt_trichotomy
abbrev Rl:=@PySem.wpAny_onRaise
abbrev Rm:=@RD
abbrev Rn:=@List.getLast_eq_getElem
abbrev Ro:=@List.length_eq_zero_iff
abbrev Rp:=@PySem.wpAny_eqBool_int
abbrev Rq:=@PySem.noFill_tuple_add
abbrev Rr:=@Nat.le_of_not_lt
abbrev Rt:=@List.flatMap_nil
abbrev Ru:=@List.any_eq_true
abbrev Rv:=@beq_self_eq_true
abbrev Rw:=@PySem.wpAny_loadPart'
abbrev Rx:=@PySem.wpAny_typeOf
abbrev Ry:=@List.length_set
abbrev Rz:=@PySem.pushCells_keeps
abbrev RA:=@PySem.Within.cons
abbrev RB:=@List.map_id
abbrev RF:=@Bool.and_true
abbrev RG:=@PySem.wpAny_call
abbrev RH:=@PySem.call_meets
namespace KH
open PySem PySem.W PySem.Spec PyProof.Rows
def tp(i:Nat):Stmt:=PySem.Challenge.pw_tiewebs_k11_whole_sharings_and_roots.main.body.getD i (.Pass ⟨0,0,0,0⟩)
def iC:n_->n_
 | .ClassDef _ _ _ (b::_) .. =>b
 |s=>s
def dA(s:n_):Arguments:=match s with
 | .FunctionDef _ a _ _ _ _ _ _ _ _=>a
 |_=>{posonlyargs:=[],args:=[],vararg:=none,kwonlyargs:=[],kw_defaults:=[],kwarg:=none,defaults:=[]}
def dB(s:n_):List Stmt:=match s with
 | .FunctionDef _ _ b _ _ _ _ _ _ _=>b
 |_=>[]
def dS(s:n_):Scope:=match s with
 | .FunctionDef _ _ _ _ _ _ sc _ _ _=>sc
 |_=>{kind:=.function,names:=[],isGenerator:=c_,isCoroutine:=c_}
def zs(x:String)(t:Nat):Value:=.str (g_ x) t
def ze(P:D_)(x:String)(t:Nat)(v:a_):DictEntry:=⟨PyData.keyHash P (g_ x),zs x t,v⟩
def zt(xs:Array a_):Obj:=⟨.type "tuple",none,.seq xs, #[]⟩
def zc(n q:String)(a:Nat)(l ac p5 p6 fl:Int)(r8:a_)(p10:Int)(r11 r13 r14 r15:a_)(p16:Int)(t:Nat):Obj:=⟨.type "code",none,.fields #[zs n a,zs q (a+1),zs "/claim/cut.py" (a+2),.int l 0,.int ac 0,.int p5 0,.int p6 0,.int fl 0,r8,.bool b_,.int p10 0,r11,.none,r13,r14,r15,.int p16 0,.int l 0,zs "/claim/cut.py" t], #[]⟩
def zf(n q:String)(st:n_)(kV dc pm:a_)(an:Option b')(cd ct:a_):Data:=.func (wR (g_ n) (g_ q) (dA st) (dB st) (dS st) .none kV dc pm an cd ct)
def zg(n q:String)(st:n_):Obj:=⟨.none,none,.func {name:=g_ n,qualname:=g_ q,params:=dA st,body:=.stmts (dB st),scope:=dS st,globals:=0,closure:=[],defaults:=.none,kwdefaults:=.none}, #[]⟩
def z0:Obj:=⟨.none,none,.fields #[],#[]⟩
def zp:Obj:=⟨.type "builtin_function_or_method",none,.fields #[.builtin "type.__prepare__",.type "type"],#[]⟩
def zu(a:Nat):Obj:=⟨.type "super",none,.fields #[.ref a,.ref a,.ref a],#[]⟩
def zi(a:Nat):Obj:=⟨.type "builtin_function_or_method",none,.fields #[.builtin "object.__init_subclass__",.ref a],#[]⟩
def zr(a b:Nat)(v:a_):Obj:=⟨.type "frame",none,.plain,#[ar (.ref a),ar (.ref 3),ar (.ref b),none,ar v,none,ar (.ref 0)]⟩
def zk(n:String)(a b c:Nat)(l:Int)(r:Nat)(m:Int)(s:Nat)(x y:Int)(t:Nat):Obj:=⟨.type "code",none,.fields #[zs n a,zs n b,zs "/claim/cut.py" c,.int l 0,.int 0 0,.int 0 0,.int 0 0,.int 0 0,.ref r,.bool c_,.int m 0,.ref s,.none,.none,.none,.none,.int x 0,.int y 0,zs "/claim/cut.py" t],#[]⟩
def zE(n:String)(i x a:Nat)(l ac fl:Int)(md:String)(m t:Nat):List Obj:=[zt #[],z0,zg n n (tp i),zc n n a l ac 0 0 fl (.ref x) 181 (.ref (x+1)) .none .none (.ref (x+2)) t (t+1),⟨.type "function",none,zf n n (tp i) .none .none (zs md m) none (.ref (x+3)) .none,#[]⟩]
def zD(n:String)(i x a:Nat)(l ac fl:Int)(v:Array a_)(md:String)(m t:Nat):List Obj:=[zt #[],z0,zt v,zt #[],zg n n (tp i),zc n n a l ac 0 0 fl (.ref x) 181 (.ref (x+1)) (.ref (x+2)) (.ref (x+3)) (.ref (x+4)) t (t+1),⟨.type "function",none,zf n n (tp i) .none .none (zs md m) none (.ref (x+5)) .none,#[]⟩]
def zC(P:D_)(n:String)(a t l:Nat):List Obj:=[zp,⟨(.type "dict"),none,(.dict #[ze P "__module__" (t+5) (zs "tiewebs.errors" 187),ze P "__qualname__" (t+7) (zs n (t+6)),ze P "__firstlineno__" (t+9) (.int l (t+8)),ze P "__static_attributes__" (t+10) (.ref (a+6))] 4),#[]⟩,zt #[],z0,zk n t (t+1) (t+2) l (a+2) 181 (a+3) (t+3) l (t+4),zr (a+4) (a+1) (zs "tiewebs.errors" 187),zt #[],⟨(.type "dict"),none,(.dict #[ze P "__module__" (t+5) (zs "tiewebs.errors" 187),ze P "__firstlineno__" (t+9) (.int l (t+8)),ze P "__static_attributes__" (t+10) (.ref (a+6)),ze P "__doc__" (t+11) .none] 2),#[]⟩,⟨(.type "type"),none,(.cls ⟨(g_ n),[(.ref 24)],[(.ref (a+8)),(.ref 24),(.type "ValueError"),(.type "Exception"),(.type "BaseException"),(.type "object")],(a+7),(g_ n),b_,[],[],c_,none,c_⟩),#[ar (.ref (a-1)),none,ar (zs n (t-2)),ar (zs n (t+6)),ar (.builtin "ValueError.__new__"),ar (.bool b_)]⟩,zu (a+8),zi (a+8),zt #[(.ref 24)]]
def ml:String:="law_tiewebs_k11_whole_sharings_and_roots"
def L1(P:D_):List Obj:=[boot_o_0 P,boot_o_1 P,boot_o_2 P,⟨(.type "dict"),none,(.dict #[ze P "__name__" 165 (zs ml 571),ze P "__doc__" 166 .none,ze P "__package__" 167 .none,ze P "__loader__" 168 (.builtin "__main__.__loader__#opaque"),ze P "__spec__" 169 .none,ze P "__annotations__" 170 (.ref 6),ze P "__builtins__" 171 (.ref 4),ze P "__file__" 173 (zs "/claim/cut.py" 172),ze P "__cached__" 174 .none,ze P "WebError" 206 (.ref 24),ze P "NoWeb" 222 (.ref 37),ze P "NoPlaces" 238 (.ref 49),ze P "NoSharing" 254 (.ref 61),ze P "NoRoot" 270 (.ref 73),ze P "TooGreat" 297 (.ref 92),ze P "MOST_PLACES" 301 (.int 14 300),ze P "is_whole" 308 (.ref 101),ze P "is_pair" 315 (.ref 108),ze P "is_place" 323 (.ref 115),ze P "is_tie" 333 (.ref 122),ze P "is_rising" 339 (.ref 127),ze P "is_places" 345 (.ref 132),ze P "is_web" 351 (.ref 137),ze P "need_web" 358 (.ref 144),ze P "need_few_places" 366 (.ref 151),ze P "pairs_of" 372 (.ref 156),ze P "are_tied" 381 (.ref 163),ze P "degrees" 387 (.ref 168),ze P "within" 393 (.ref 173),ze P "MOST_CROWDED" 397 (.int 7 396),ze P "LEAST_CROWD" 399 (.int 2 398),ze P "need_crowded" 406 (.ref 180),ze P "joins" 412 (.ref 185),ze P "crowd_holds" 418 (.ref 190),ze P "crowds_from" 428 (.ref 197),ze P "MOST_AT_A_PLACE" 432 (.int 2 431),ze P "how_many_have" 438 (.ref 202),ze P "are_crowds" 444 (.ref 207),ze P "is_sharing" 450 (.ref 212),ze P "goes_with" 456 (.ref 217),ze P "sharings_from" 462 (.ref 222),ze P "all_sharings" 469 (.ref 229),ze P "holders_of" 475 (.ref 234),ze P "root_by" 481 (.ref 239),ze P "MOST_MAPPED" 485 (.int 7 484),ze P "need_mapped" 493 (.ref 246),ze P "goes_on" 499 (.ref 251),ze P "first_map_from" 511 (.ref 258),ze P "map_to" 519 (.ref 265),ze P "MOST_TIES" 523 (.int 7 522),ze P "ties_meet" 529 (.ref 270),ze P "need_few_ties" 536 (.ref 277),ze P "tie_web" 542 (.ref 282),ze P "are_names" 550 (.ref 287),ze P "root_holds" 556 (.ref 292),ze P "some_root" 564 (.ref 299),ze P "shared_by" 570 (.ref 304),ze P "_law_cell_at" 580 (.ref 311),ze P "_law_state" 589 (.ref 318),ze P "_law_take" 599 (.ref 325),ze P "_law_pairs" 605 (.ref 330),ze P "_law_mixed_row" 615 (.ref 337),ze P "_law_web" 621 (.ref 342),ze P "_law_made" 627 (.ref 347),ze P "_law_named" 633 (.ref 352),ze P "_law_some_web" 639 (.ref 357),ze P "_law_right" 645 (.ref 362),ze P "law" 656 (.ref 369)] 68),#[]⟩,boot_o_4 P,boot_o_5 P,boot_o_6 P,boot_o_7 P,boot_o_8 P,boot_o_9 P,boot_o_10 P,zt #[],⟨.none,none,(.fields #[(.int 2 0),(.int 0 0),(.ref 20),(.int 4 0),(.int 0 0),(.ref 33),(.int 6 0),(.int 0 0),(.ref 45),(.int 8 0),(.int 0 0),(.ref 57),(.int 10 0),(.int 0 0),(.ref 69),(.int 12 0),(.int 0 0),(.ref 81),(.int 19 0),(.int 0 0),(.ref 100),(.int 21 0),(.int 0 0),(.ref 107),(.int 23 0),(.int 0 0),(.ref 114),(.int 25 0),(.int 0 0),(.ref 121),(.int 30 0),(.int 0 0),(.ref 126),(.int 32 0),(.int 0 0),(.ref 131),(.int 34 0),(.int 0 0),(.ref 136),(.int 41 0),(.int 0 0),(.ref 143),(.int 44 0),(.int 0 0),(.ref 150),(.int 48 0),(.int 0 0),(.ref 155),(.int 50 0),(.int 0 0),(.ref 162),(.int 52 0),(.int 0 0),(.ref 167),(.int 56 0),(.int 0 0),(.ref 172),(.int 66 0),(.int 0 0),(.ref 179),(.int 68 0),(.int 0 0),(.ref 184),(.int 70 0),(.int 0 0),(.ref 189),(.int 74 0),(.int 0 0),(.ref 196),(.int 82 0),(.int 0 0),(.ref 201),(.int 84 0),(.int 0 0),(.ref 206),(.int 86 0),(.int 0 0),(.ref 211),(.int 94 0),(.int 0 0),(.ref 216),(.int 98 0),(.int 0 0),(.ref 221),(.int 107 0),(.int 0 0),(.ref 228),(.int 110 0),(.int 0 0),(.ref 233),(.int 114 0),(.int 0 0),(.ref 238),(.int 123 0),(.int 0 0),(.ref 245),(.int 128 0),(.int 0 0),(.ref 250),(.int 133 0),(.int 0 0),(.ref 257),(.int 143 0),(.int 0 0),(.ref 264),(.int 150 0),(.int 0 0),(.ref 269),(.int 152 0),(.int 0 0),(.ref 276),(.int 156 0),(.int 0 0),(.ref 281),(.int 162 0),(.int 0 0),(.ref 286),(.int 166 0),(.int 0 0),(.ref 291),(.int 175 0),(.int 0 0),(.ref 298),(.int 180 0),(.int 0 0),(.ref 303),(.int 187 0),(.int 0 0),(.ref 310),(.int 191 0),(.int 0 0),(.ref 317),(.int 196 0),(.int 0 0),(.ref 324),(.int 205 0),(.int 0 0),(.ref 329),(.int 210 0),(.int 0 0),(.ref 336),(.int 216 0),(.int 0 0),(.ref 341),(.int 230 0),(.int 0 0),(.ref 346),(.int 236 0),(.int 0 0),(.ref 351),(.int 238 0),(.int 0 0),(.ref 356),(.int 251 0),(.int 0 0),(.ref 361),(.int 267 0),(.int 0 0),(.ref 368)]),#[]⟩,⟨(.type "code"),none,(.fields #[(zs "<module>" 182),(zs "<module>" 183),(zs "/claim/cut.py" 184),(.int 1 0),(.int 0 0),(.int 0 0),(.int 0 0),(.int 0 0),(.ref 11),(.bool c_),(.int 181 0),(.ref 12),.none,.none,.none,.none,(.int 185 0),(.int 1 0),(zs "/claim/cut.py" 186)]),#[]⟩,zr 13 3 (zs "__main__" 164),zt #[(.type "ValueError")],zp,⟨(.type "dict"),none,(.dict #[ze P "__module__" 196 (zs "tiewebs.errors" 187),ze P "__qualname__" 198 (zs "WebError" 197),ze P "__firstlineno__" 200 (.int 2 199),ze P "__static_attributes__" 201 (.ref 22)] 4),#[]⟩,zt #[],z0,zk "WebError" 191 192 193 2 18 181 19 194 2 195,zr 20 17 (zs "tiewebs.errors" 187),zt #[],⟨(.type "dict"),none,(.dict #[ze P "__module__" 196 (zs "tiewebs.errors" 187),ze P "__firstlineno__" 200 (.int 2 199),ze P "__static_attributes__" 201 (.ref 22),ze P "__weakref__" 203 (.ref 25),ze P "__doc__" 204 .none] 3),#[]⟩,⟨(.type "type"),none,(.cls ⟨(g_ "WebError"),[(.type "ValueError")],[(.ref 24),(.type "ValueError"),(.type "Exception"),(.type "BaseException"),(.type "object")],23,(g_ "WebError"),b_,[],[(.ref 37),(.ref 49),(.ref 61),(.ref 73),(.ref 92)],c_,none,c_⟩),#[ar (.ref 15),none,ar (zs "WebError" 189),ar (zs "WebError" 197),ar (.builtin "ValueError.__new__"),ar (.bool b_)]⟩,⟨(.type "getset_descriptor"),none,(.fields #[(zs "__weakref__" 202),(.ref 24),(.builtin "ExceptionGroup.__weakref__"),.none]),#[]⟩,zu 24,zi 24,zt #[(.ref 24)]]++zC P "NoWeb" 29 209 4++zC P "NoPlaces" 41 225 6++zC P "NoSharing" 53 241 8++zC P "NoRoot" 65 257 10++[zp,⟨(.type "dict"),none,(.dict #[ze P "__module__" 278 (zs "tiewebs.errors" 187),ze P "__qualname__" 280 (zs "TooGreat" 279),ze P "__firstlineno__" 282 (.int 12 281),ze P "__init__" 291 (.ref 89),ze P "__static_attributes__" 294 (.ref 90)] 5),#[]⟩,zt #[],⟨.none,none,(.fields #[(.int 14 0),(.int 4 0),(.ref 88)]),#[]⟩,zk "TooGreat" 273 274 275 12 79 181 80 276 12 277,zr 81 78 (zs "tiewebs.errors" 187),zt #[],z0,zt #[(zs "self" 286),(zs "many" 287),(zs "most" 288)],zt #[],zg "__init__" "TooGreat.__init__" (iC (tp 6)),zc "__init__" "TooGreat.__init__" 283 14 3 0 0 3 (.ref 83) 181 (.ref 84) (.ref 85) (.ref 86) (.ref 87) 289 290,⟨.type "function",none,(zf "__init__" "TooGreat.__init__" (iC (tp 6)) .none .none (zs "tiewebs.errors" 187) none (.ref 88) .none),#[]⟩,zt #[(zs "many" 292),(zs "most" 293)],⟨(.type "dict"),none,(.dict #[ze P "__module__" 278 (zs "tiewebs.errors" 187),ze P "__firstlineno__" 282 (.int 12 281),ze P "__init__" 291 (.ref 89),ze P "__static_attributes__" 294 (.ref 90),ze P "__doc__" 295 .none] 2),#[]⟩,⟨(.type "type"),none,(.cls ⟨(g_ "TooGreat"),[(.ref 24)],[(.ref 92),(.ref 24),(.type "ValueError"),(.type "Exception"),(.type "BaseException"),(.type "object")],91,(g_ "TooGreat"),b_,[],[],c_,none,c_⟩),#[ar (.ref 76),none,ar (zs "TooGreat" 271),ar (zs "TooGreat" 279),ar (.builtin "ValueError.__new__"),ar (.bool b_)]⟩,zu 92,zi 92]++zD "is_whole" 9 95 302 19 1 3 #[zs "thing" 305] "tiewebs.webs" 298 306++zD "is_pair" 10 102 309 21 1 3 #[zs "thing" 312] "tiewebs.webs" 298 313++zD "is_place" 11 109 316 23 2 3 #[zs "many" 319,zs "thing" 320] "tiewebs.webs" 298 321++zD "is_tie" 12 116 324 25 2 3 #[zs "many" 327,zs "thing" 328,zs "low" 329,zs "high" 330] "tiewebs.webs" 298 331++zE "is_rising" 13 123 334 30 1 3 "tiewebs.webs" 298 337++zE "is_places" 14 128 340 32 2 3 "tiewebs.webs" 298 343++zE "is_web" 15 133 346 34 1 3 "tiewebs.webs" 298 349++zD "need_web" 16 138 352 41 1 3 #[zs "thing" 355] "tiewebs.webs" 298 356++zD "need_few_places" 17 145 359 44 2 3 #[zs "web" 362,zs "most" 363] "tiewebs.webs" 298 364++zE "pairs_of" 18 152 367 48 1 3 "tiewebs.webs" 298 370++zD "are_tied" 19 157 373 50 3 3 #[zs "web" 376,zs "one" 377,zs "other" 378] "tiewebs.webs" 298 379++zE "degrees" 20 164 382 52 1 3 "tiewebs.webs" 298 385++zE "within" 21 169 388 56 2 3 "tiewebs.webs" 298 391++zD "need_crowded" 25 174 400 66 1 3 #[zs "web" 403] "tiewebs.crowds" 394 404++zE "joins" 26 181 407 68 3 3 "tiewebs.crowds" 394 410++zE "crowd_holds" 27 186 413 70 2 3 "tiewebs.crowds" 394 416++zD "crowds_from" 28 191 419 74 2 3 #[zs "web" 422,zs "start" 423,zs "found" 424,zs "place" 425] "tiewebs.crowds" 394 426++zE "how_many_have" 31 198 433 82 2 3 "tiewebs.sharings" 429 436++zE "are_crowds" 32 203 439 84 2 3 "tiewebs.sharings" 429 442++zE "is_sharing" 33 208 445 86 2 3 "tiewebs.sharings" 429 448++zE "goes_with" 34 213 451 94 2 3 "tiewebs.sharings" 429 454++zE "sharings_from" 35 218 457 98 2 3 "tiewebs.sharings" 429 460++zD "all_sharings" 36 223 463 107 1 3 #[zs "web" 466] "tiewebs.sharings" 429 467++zE "holders_of" 37 230 470 110 2 3 "tiewebs.sharings" 429 473++zE "root_by" 38 235 476 114 2 3 "tiewebs.sharings" 429 479++zD "need_mapped" 41 240 486 123 2 3 #[zs "one" 489,zs "other" 490] "tiewebs.maps" 482 491++zE "goes_on" 42 247 494 128 4 3 "tiewebs.maps" 482 497++zD "first_map_from" 43 252 500 133 3 3 #[zs "one" 503,zs "other" 504,zs "start" 505,zs "many" 506,zs "place" 507,zs "found" 508] "tiewebs.maps" 482 509++zD "map_to" 44 259 512 143 2 3 #[zs "one" 515,zs "other" 516] "tiewebs.maps" 482 517++zE "ties_meet" 47 266 524 150 2 3 "tiewebs.ties" 520 527++zD "need_few_ties" 48 271 530 152 1 3 #[zs "web" 533] "tiewebs.ties" 520 534++zE "tie_web" 49 278 537 156 1 3 "tiewebs.ties" 520 540++zE "are_names" 51 283 545 162 3 3 "tiewebs.roots" 543 548++zE "root_holds" 52 288 551 166 2 3 "tiewebs.roots" 543 554++zD "some_root" 53 293 557 175 1 3 #[zs "web" 560,zs "sharings" 561] "tiewebs.roots" 543 562++zE "shared_by" 54 300 565 180 2 3 "tiewebs.roots" 543 568++zD "_law_cell_at" 56 305 573 187 2 3 #[zs "_law_script" 576,zs "_law_k" 577] ml 571 578++zD "_law_state" 57 312 581 191 2 3 #[zs "_law_script" 584,zs "_law_k" 585,zs "_law_cell" 586] ml 571 587++zD "_law_take" 58 319 590 196 2 3 #[zs "_law_state_here" 593,zs "_law_many" 594,zs "_law_found" 595,zs "_law_stirred" 596] ml 571 597++zE "_law_pairs" 59 326 600 205 1 3 ml 571 603++zD "_law_mixed_row" 60 331 606 210 2 3 #[zs "_law_state_here" 609,zs "_law_things" 610,zs "_law_left" 611,zs "_law_found" 612] ml 571 613++zE "_law_web" 61 338 616 216 2 3 ml 571 619++zE "_law_made" 62 343 622 230 1 3 ml 571 625++zE "_law_named" 63 348 628 236 2 3 ml 571 631++zE "_law_some_web" 64 353 634 238 2 3 ml 571 637++zE "_law_right" 65 358 640 251 2 3 ml 571 643++zD "law" 66 363 646 267 1 3 #[zs "_law_script" 649,zs "_law_k" 650,zs "_law_state_here" 651,zs "_law_web_here" 652,zs "_law_other" 653] ml 571 654
def Lb(P:D_):List Obj:=[boot_o_0 P,boot_o_1 P,boot_o_2 P,boot_o_3 P,boot_o_4 P,boot_o_5 P,boot_o_6 P,boot_o_7 P,boot_o_8 P,boot_o_9 P,boot_o_10 P,zt #[],z0,⟨(.type "code"),none,(.fields #[(zs "<module>" 182),(zs "<module>" 183),(zs "/claim/cut.py" 184),(.int 1 0),(.int 0 0),(.int 0 0),(.int 0 0),(.int 0 0),(.ref 11),(.bool c_),(.int 181 0),(.ref 12),.none,.none,.none,.none,(.int 185 0),(.int 1 0),(zs "/claim/cut.py" 186)]),#[]⟩,zr 13 3 (zs "__main__" 164)]
def as0:List Addr:=[2,3,15,22,23,24,25,28,35,36,37,40,47,48,49,52,59,60,61,64,71,72,73,76,83,85,86,88,89,90,91,92,95,97,98,100,101,102,104,105,107,108,109,111,112,114,115,116,118,119,121,122,123,126,127,128,131,132,133,136,137,138,140,141,143,144,145,147,148,150,151,152,155,156,157,159,160,162,163,164,167,168,169,172,173,174,176,177,179,180,181,184,185,186,189,190,191,193,194,196,197,198,201,202,203,206,207,208,211,212,213,216,217,218,221,222,223,225,226,228,229,230,233,234,235,238,239,240,242,243,245,246,247,250,251,252,254,255,257,258,259,261,262,264,265,266,269,270,271,273,274,276,277,278,281,282,283,286,287,288,291,292,293,295,296,298,299,300,303,304,305,307,308,310,311,312,314,315,317,318,319,321,322,324,325,326,329,330,331,333,334,336,337,338,341,342,343,346,347,348,351,352,353,356,357,358,361,362,363,365,366,368,369]
def ts0:List Addr:=[359,364]
def vq:Program:={PySem.Challenge.pw_tiewebs_k11_whole_sharings_and_roots with main:={PySem.Challenge.pw_tiewebs_k11_whole_sharings_and_roots.main with body:=[tp 1,tp 2,tp 3,tp 4,tp 5,tp 6,tp 8,tp 9,tp 10,tp 11,tp 12,tp 13,tp 14,tp 15,tp 16,tp 17,tp 18,tp 19,tp 20,tp 21,tp 23,tp 24,tp 25,tp 26,tp 27,tp 28,tp 30,tp 31,tp 32,tp 33,tp 34,tp 35,tp 36,tp 37,tp 38,tp 40,tp 41,tp 42,tp 43,tp 44,tp 46,tp 47,tp 48,tp 49,tp 51,tp 52,tp 53,tp 54,tp 56,tp 57,tp 58,tp 59,tp 60,tp 61,tp 62,tp 63,tp 64,tp 65,tp 66]}}
def alt:Bool->List Obj->List Obj
 |_,[]=>[]
 |true,a::r=>a::alt c_ r
 |false,_::r=>alt b_ r
def toT:Nat->List Obj->BT
 |0,_=>.nil
 |_+1,[]=>.nil
 |f+1,o::r=>.node o (toT f (alt b_ r)) (toT f (alt c_ r))
def pick:Nat->List b'->List Obj->cC
 |i,as,o::os=>match as with
  |a::r=>if Nat.beq i a then (a,o)::pick (i+1) r os else pick (i+1) (a::r) os
  |[]=>[]
 |_,_,[]=>[]
def K0(P:D_):W.Frag:=pick 0 as0 (L1 P)
theorem as0_eq:∀P,as0=(K0 P).map (·.1):=λ_=>by kernel_rfl
abbrev pw:Program:=PySem.Challenge.pw_tiewebs_k11_whole_sharings_and_roots
abbrev Xt0(s:cn):Bool:=xlAt vq [] s && recOk (RowW.records (OpenRow.toRowW (OpenLaw.row PySem.Challenge.rw_tiewebs_k11_whole_sharings_and_roots))) s
def lf:Life:={}
def en:Env:={scope:=pw.main.scope,locals:=mainNs,globals:=mainNs,cells:=[],code:=(.ref 13),frame:=ar 14}
abbrev cE:Code:=.body (F0 pw) en
abbrev Bf:List Frame:=[topFrame ⟨0,0,0,0⟩]
abbrev S0(w:d_)(os:M'):Shared:=⟨y' w.params,xj [],boot_drawn,boot_toks,os⟩
abbrev Sb(w:d_)(os:M'):SharedT:=⟨toT 12 (Lb w.params),15,lf,xj [],⟨0,0,0,0⟩,187,os⟩
abbrev Sm(w:d_)(os:M'):SharedT:=⟨toT 12 (L1 w.params),370,lf,xj [],⟨0,0,0,0⟩,657,os⟩
abbrev Sf(w:d_)(os:M'):Shared:=⟨⟨xj (L1 w.params),lf⟩,xj [],⟨0,0,0,0⟩,657,os⟩
theorem L6:∀w,(λos=>topGo F_ pw w 11 (ar (.ref 6)) 12 (S0 w os) (topStub pw))=λos=>ar ((Sb w os).abs,⟨denote F_ cE,cE,⟨0,0,0,0⟩,Bf⟩):=λw=>by kernel_rfl
theorem HP:∀w,(λos=>segRun F_ pw w 11 (ar (.ref 6)) 1 1 (Sb w os).abs (blockOf (F0 pw) en cE ⟨0,0,0,0⟩ Bf))=λos=>ar (.next,(Sb w os).abs,cE,⟨0,0,0,0⟩):=λw=>by kernel_rfl
theorem Kd:∀w,(λos=>segRunT F_ pw w 11 (ar (.ref 6)) 1 2725 (Sb w os) (piecesOf (F0 pw) en cE ⟨0,0,0,0⟩ Bf))=λos=>ar (.next,Sm w os,cE,⟨267,0,274,15⟩):=λw=>by kernel_rfl
theorem L7:∀w,(λos=>topRun F_ pw w 11 (ar (.ref 6)) 2 (Sm w os).abs ⟨doneF .next,cE,⟨267,0,274,15⟩,Bf⟩)=λos=>ar (Sf w os):=λw=>by kernel_rfl
theorem L8(w:d_)(os:M'):topRun F_ pw w 11 (ar (.ref 6)) (12+(1+(2725+2))) (S0 w os) (topStub pw)=ar (Sf w os):=
 go_top (Oh (L6 w) os) (piece_block (Oh (HP w) os) (by have:=piece_app (rest:=[]) (segRun_of (Oh (Kd w) os)) (piece_nil (Oh (L7 w) os));rw[Oi]at this;exact this))
theorem Ke:∀w:d_,((y' w.params).isNs e_ && (xj []:Array J').size==0,(y' w.params).objs.size,(y' w.params).nsMap e_ "__annotations__")=(b_,11,(ar (.ref 6))):=λw=>by kernel_rfl
theorem Kf:∀w os,(staticsOk (j' pw.main.body) (y' w.params) (Sf w os).heap && namesBound pw (Sf w os).heap && gensDone (Sf w os) && laidKept (y' w.params) (Sf w os).heap)=true:=λw os=>by kernel_rfl
theorem L9:∀w os,(v_ vq [] (j' pw.main.body) Xt0 b_ (Sf w os)).1=(v' vq []).1:=λw os=>by kernel_rfl
theorem Ma:∀w os,(v_ vq [] (j' pw.main.body) Xt0 b_ (Sf w os)).2.1=(v' vq []).2.1:=λw os=>by kernel_rfl
theorem Mb:∀w os,(v_ vq [] (j' pw.main.body) Xt0 b_ (Sf w os)).2.2.1=(v' vq []).2.2.1:=λw os=>by kernel_rfl
theorem Mc:∀w os,(v_ vq [] (j' pw.main.body) Xt0 b_ (Sf w os)).2.2.2.1=(v' vq []).2.2.2.1:=λw os=>by kernel_rfl
theorem Md:∀w os,(v_ vq [] (j' pw.main.body) Xt0 b_ (Sf w os)).2.2.2.2.1=(v' vq []).2.2.2.2.1:=λw os=>by kernel_rfl
theorem Me:∀w os,(v_ vq [] (j' pw.main.body) Xt0 b_ (Sf w os)).2.2.2.2.2.1=(v' vq []).2.2.2.2.2.1:=λw os=>by kernel_rfl
theorem Mf:∀w os,(v_ vq [] (j' pw.main.body) Xt0 b_ (Sf w os)).2.2.2.2.2.2.1=(v' vq []).2.2.2.2.2.2.1:=λw os=>by kernel_rfl
theorem Mg:∀w os,(v_ vq [] (j' pw.main.body) Xt0 b_ (Sf w os)).2.2.2.2.2.2.2.1=(v' vq []).2.2.2.2.2.2.2.1:=λw os=>by kernel_rfl
theorem Mh:∀w os,(v_ vq [] (j' pw.main.body) Xt0 b_ (Sf w os)).2.2.2.2.2.2.2.2=(v' vq []).2.2.2.2.2.2.2.2:=λw os=>by kernel_rfl
theorem Kg:∀w os,SQ (K_ K0 as0 as0_eq ts0) (Sf w os)=SR (K_ K0 as0 as0_eq ts0) w:=λw os=>by kernel_rfl
theorem Kh(w:d_)(os:M'):v_ vq [] (j' pw.main.body) Xt0 b_ (Sf w os)=v' vq []:=QF (L9 w os) (QF (Ma w os) (QF (Mb w os) (QF (Mc w os) (QF (Md w os) (QF (Me w os) (QF (Mf w os) (QF (Mg w os) (Mh w os))))))))
theorem left0:LeftO (OpenLaw.row PySem.Challenge.rw_tiewebs_k11_whole_sharings_and_roots).prog vq [] Xt0 (SQ (K_ K0 as0 as0_eq ts0)) (SR (K_ K0 as0 as0_eq ts0)) 5574:=
 LeftO.of_pieces (p:=pw) (H₀:=y') (H₁:=λP=>⟨xj (L1 P),lf⟩) (gs₀:=xj []) (gs₁:=xj []) (d₀:=boot_drawn) (d₁:=⟨0,0,0,0⟩) (k₀:=boot_toks) (k₁:=657) (M:=12+(1+(2725+2))) (boot_open (p:=pw) (by kernel_rfl) (by decide) (λs=>by kernel_rfl)) Ke L8 (by decide) λw=>funext λos=>QF (Kf w os) (QF (Kh w os) (Kg w os))
end KH
section
namespace L2
open PySem PySem.Spec PyProof.Rows
abbrev Key:=Sum Int Str
def Hr:Key->a_->Bool
 | .inl k,v=>Value.isInt k v
 | .inr x,v=>Value.isStrOf x v
def Mi(w:d_):Key->Int
 | .inl k=>hashInt k
 | .inr x=>hashStr w x
theorem dC:∀{k:Key} {v:a_},Hr k v=b_->(∃i t,k=N_ i/\v=u_ i t)\/(∃x t,k=O_ x/\v=R5 x t)
 | .inl i,v,h=>by
  obtain⟨t,e⟩:=Value.isInt_shape (k:=i) (v:=v) h;exact .inl ⟨i,t,rfl,e⟩
 | .inr x,v,h=>by
  obtain⟨t,e⟩:=Value.isStrOf_shape (x:=x) (v:=v) h;exact .inr ⟨x,t,rfl,e⟩
theorem HQ(a b:Int):decide ((N_ a:Key)=N_ b)=(a==b):=by
 by_cases e:a=b
 ·subst e;simp
 ·have h:¬ (N_ a:Key)=N_ b:=λq=>e (Sum.inl.inj q);rw[Ot h];exact(beq_eq_false_iff_ne.mpr e).symm
theorem HR(a b:Str):decide ((O_ a:Key)=O_ b)=decide (a=b):=by
 by_cases e:a=b
 ·subst e;simp
 ·have h:¬ (O_ a:Key)=O_ b:=λq=>e (Sum.inr.inj q);rw[Ot h,Ot e]
theorem HS(a:Int)(b:Str):decide ((N_ a:Key)=O_ b)=false:=Ot (λq=>nomatch q)
theorem HU(a:Str)(b:Int):decide ((O_ a:Key)=N_ b)=false:=Ot (λq=>nomatch q)
def u6(prog:dV)(w:d_):PySem.KeyKind prog w Key where
 is:=Hr
 hash:=Mi w
 inj:=λv a b ha hb=>by
  rcases dC ha with⟨i,t,rfl,rfl⟩|⟨x,t,rfl,rfl⟩
  ·rcases dC hb with⟨j,u,rfl,e⟩|⟨y,u,rfl,e⟩
   ·injection e with e1 _;rw[e1]
   ·exact nomatch e
  ·rcases dC hb with⟨j,u,rfl,e⟩|⟨y,u,rfl,e⟩
   ·exact nomatch e
   ·injection e with e1 _;rw[e1]
 byValue:=λk v h=>by rcases dC h with⟨i,t,rfl,rfl⟩|⟨x,t,rfl,rfl⟩<;>rfl
 pyHash:=λhv h=>by
  rcases dC hv with⟨i,t,rfl,rfl⟩|⟨x,t,rfl,rfl⟩
  ·exact wpAny_pyHash_int h
  ·exact wpAny_pyHash_str h
 eqBool:=λhu hv h=>by
  rcases dC hu with⟨i,t,rfl,rfl⟩|⟨x,t,rfl,rfl⟩
  ·rcases dC hv with⟨j,u,rfl,rfl⟩|⟨y,u,rfl,rfl⟩
   ·rw[HQ]at h;exact Rp h
   ·rw[HS]at h;exact SeqAt.EqAt.int_str i t y u _ _ _ _ h
  ·rcases dC hv with⟨j,u,rfl,rfl⟩|⟨y,u,rfl,rfl⟩
   ·rw[HU]at h;exact SeqAt.EqAt.str_int x t j u _ _ _ _ h
   ·rw[HR]at h;exact wpAny_eqBool_str h
 «strs»:=λk x t v h=>by
  rcases dC h with⟨i,u,rfl,e⟩|⟨y,u,rfl,e⟩
  ·exact nomatch e
  ·injection e with e1 _;subst e1;cases v<;>rfl
inductive V where
 |non|bl (b:Bool)|int (i:Int)|str (x:Str)|byt (b:Array UInt8)|flt (b:UInt64)|ref (a:b')|ty (n:String)
 deriving DecidableEq
def RelV:V->a_->Prop
 | .non,u=>u=i_
 | .bl b,u=>u=u4 b
 | .int i,u=>∃t,u=u_ i t
 | .str x,u=>∃t,u=R5 x t
 | .byt b,u=>∃t,u=Value.bytes b t
 | .flt b,u=>∃t,u=Value.float b t
 | .ref a,u=>u=ey a
 | .ty n,u=>u=H_ n
abbrev bJ:List V->List a_->Prop:=Paired RelV
theorem bJ.length{xs:List V}{us:List a_}(r:bJ xs us):xs.length=us.length:=Paired.length r
theorem bJ.get:∀{xs:List V} {us:List a_} {i:Nat} {x:V},bJ xs us->xs[i]? =ar x->∃u,us[i]? =ar u/\RelV x u
 |_,_,_,_,.nil,e=>by simp at e
 |_,_,0,_,.cons r _,e=>by simp at e;subst e;exact⟨_,rfl,r⟩
 |_,_,i+1,x,.cons _ t,e=>by
  obtain⟨u,Y,Z⟩:=bJ.get (i:=i) (x:=x) t (by simpa using e);exact⟨u,by simpa using Y,Z⟩
theorem bJ.set{x:V}{u:a_}(r:RelV x u):∀{xs:List V} {us:List a_} (i:Nat),bJ xs us->bJ (xs.set i x) (us.set i u)
 |_,_,_,.nil=>.nil
 |_,_,0,.cons _ t=>.cons r t
 |_,_,i+1,.cons q t=>.cons q (bJ.set r i t)
theorem bJ.append:∀{xs ys:List V} {us ws:List a_},bJ xs us->bJ ys ws->bJ (xs++ys) (us++ws)
 |_,_,_,_,.nil,s=>s
 |_,_,_,_,.cons r t,s=>.cons r (bJ.append t s)
theorem bJ.take:∀{xs:List V} {us:List a_} (n:Nat),bJ xs us->bJ (xs.take n) (us.take n)
 |_,_,0,_=>.nil
 |_,_,_+1,.nil=>.nil
 |_,_,n+1,.cons r t=>.cons r (bJ.take n t)
theorem bJ.drop:∀{xs:List V} {us:List a_} (n:Nat),bJ xs us->bJ (xs.drop n) (us.drop n)
 |_,_,0,r=>r
 |_,_,_+1,.nil=>.nil
 |_,_,n+1,.cons _ t=>bJ.drop n t
def CT:Option V->Option a_->Prop
 |some v,ar u=>RelV v u
 |none,none=>True
 |_,_=>False
def KV{κ:Type}:List (κ×V)->List (κ×a_)->Prop:=Paired λ(p:κ×V) (q:κ×a_)=>p.1=q.1/\RelV p.2 q.2
def kV:Key->V
 | .inl i=>.int i
 | .inr x=>.str x
inductive HO where
 |lst (xs:List V)
 |tup (xs:List V)
 |dK (kvs:List (Key×V))|dT (kvs:List (List Key×V))
 |set (S:Int->Bool) (n:Nat)
 |ins (C dx:b') (fs:List (Str×V))
 |own (x:b')
 |xd (fs:List (Str×V))
 |met (f x:b')
 |rng (lo hi:Int)
 |frz (o:Obj) (u:HO)
 |tbl (ps:Array a_)
 |ext (φ:eg->Prop)
abbrev Hp:=b'->Option HO
def upd(H:Hp)(a:b')(o:HO):Hp:=λb=>if b=a then ar o else H b
theorem bf{H:Hp}{a:b'}{o:HO}:upd H a o a=ar o:=by unfold upd;rw[if_pos rfl]
theorem aO{H:Hp}{a b:b'}{o:HO}(h:b≠a):upd H a o b=H b:=by unfold upd;rw[if_neg h]
theorem u7{H:Hp}{a:b'}{o u:HO}:upd (upd H a o) a u=upd H a u:=by funext b;unfold upd;split<;>rfl
theorem a8{H:Hp}{a b:b'}{o:HO}(h:H a=ar o)(h':H b=none):a≠b:=by intro e;subst e;rw[h]at h';cases h'
section
variable (P:dV)(w:d_)
def cy(H:Hp)(h:eg)(a:b'):HO->Prop
 | .lst xs=>xs.length<=sizeLine/\∃(its:List a_) (n:Nat),bJ xs its/\h.get? a=ar {cls:=.type "list",data:=.seq its.toArray n}
 | .tup xs=>(xs.length<=sizeLine/\∃o,h.get? a=ar o/\o.dict=none)/\∃its:List a_,bJ xs its/\SD h a its.toArray
 | .dK kvs=>kvs.length<=sizeLine/\(a==Sq)=c_/\∃vs,KV kvs vs/\h.DictOf (u6 P w) a vs
 | .dT kvs=>kvs.length<=sizeLine/\(a==Sq)=c_/\∃xs:List (List Key×b'×a_),
   Paired (λ(p:List Key×V) (q:List Key×b'×a_)=>p.1=q.1/\H q.2.1=ar (.tup (p.1.map kV))/\RelV p.2 q.2.2) kvs xs/\
   ∃o es ep,h.get? a=ar o/\o.ExactDict/\o.data= .dict es ep/\es.toList=xs.map (entryOfKey (tupleKind (u6 P w)))/\(xs.map (·.1)).Nodup
 | .set S n=>h.SetOf (O' P w) a S n
 | .ins C dx fs=>H dx=ar (.own a)/\fs.length<=1000/\dx≠a/\h.get? a=ar (SF C dx)/\
   ∃mA,h.Ns1 dx mA/\(∀f,CT (fs.lookup f) (mA f))/\PySem.Within mA (fs.map (·.1))
 | .own _=>∃o,h.get? a=ar o
 | .xd fs=>∃mA,h.Ns1 a mA/\∀f,CT (fs.lookup f) (mA f)
 | .rng lo hi=>∃t u v,h.get? a=ar {cls:=.type "range",data:=.fields #[.int lo t,.int hi u,.int 1 v]}
 | .frz o u=>h.get? a=ar o/\cy H h a u
 | .tbl ps=>h.get? a=ar {cls:=.none,data:=.fields ps}
 | .met f x=>h.get? a=ar (Sg (.ref f) (.ref x))
 | .ext φ=>φ h/\(∃o,h.get? a=ar o)/\∀h1 h2:eg,φ h1->(∀o,h1.get? a=ar o->h2.get? a=ar o)->φ h2
theorem u9{h:eg}{xs:List V}{items:Array a_}(z:xs.length<=sizeLine):xs.length<=sizeLine/\∃o,(h.push {cls:=.type "tuple",data:=.seq items}).get? h.objs.size=ar o/\o.dict=none:=⟨z,_,N4 _ rfl,rfl⟩
def kh(H:Hp)(h:eg):Prop:=∀a o,H a=ar o->cy P w H h a o
end
section
variable {P:dV}{w:d_}{H H':Hp}{h h':eg}{a:b'}{o:HO}
theorem cy.lt(x:cy P w H h a o):a<h.objs.size:=by
 cases o with
 |lst xs=>obtain⟨_,_,_,_,e⟩:=x;exact NV e
 |tup xs=>obtain⟨_,_,_,p⟩:=x;exact p.lt
 |dK kvs=>obtain⟨_,_,_,_,o,_,_,e,_⟩:=x;exact NV e
 |dT kvs=>obtain⟨_,_,_,_,o,_,_,e,_⟩:=x;exact NV e
 |set S n=>obtain⟨o,_,_,_,e,_⟩:=x;exact NV e
 |ins C dx fs=>obtain⟨_,_,_,e,_⟩:=x;exact NV e
 |own y=>obtain⟨_,e⟩:=x;exact NV e
 |xd fs=>obtain⟨_,⟨_,_,_,e,_⟩,_⟩:=x;exact NV e
 |rng lo hi=>obtain⟨_,_,_,e⟩:=x;exact NV e
 |frz ob u=>obtain⟨e,_⟩:=x;exact NV e
 |tbl ps=>exact NV (show h.get? a=ar _ from x)
 |met f y=>exact NV (show h.get? a=ar _ from x)
 |ext φ=>obtain⟨_,⟨_,e⟩,_⟩:=x;exact NV e
theorem Paired.mapP{α Z:Type}{F G:α->Z->Prop}:∀{l₁:List α} {l₂:List Z},Paired F l₁ l₂->(∀a b,F a b->G a b)->Paired G l₁ l₂
 |_,_,.nil,_=>.nil
 |_,_,.cons r t,f=>.cons (f _ _ r) (Paired.mapP t f)
theorem cy.stay(x:cy P w H h a o)(k:∀b u,(b=a\/H b=ar (.own a))->h.get? b=ar u->h'.get? b=ar u)
  (Q:∀b,H b=ar (.own a)->H' b=ar (.own a)) (T:∀b xs,H b=ar (.tup xs)->H' b=ar (.tup xs)):cy P w H' h' a o:=by
 induction o with
 |lst xs=>obtain⟨z,its,n,r,e⟩:=x;exact⟨z,its,n,r,k _ _ (.inl rfl) e⟩
 |tup xs=>obtain⟨⟨z,R,U,O⟩,its,r,Z,e,c⟩:=x;exact⟨⟨z,R,k _ _ (.inl rfl) U,O⟩,its,r,Z,k _ _ (.inl rfl) e,c⟩
 |dK kvs=>obtain⟨z,y,vs,r,Z,es,Y,e,c⟩:=x;exact⟨z,y,vs,r,Z,es,Y,k _ _ (.inl rfl) e,c⟩
 |dT kvs=>
  obtain⟨z,y,xs,r,Z,es,Y,e,c⟩:=x;exact⟨z,y,xs,Paired.mapP r λp q z=>⟨z.1,T _ _ z.2.1,z.2.2⟩,Z,es,Y,k _ _ (.inl rfl) e,c⟩
 |set S n=>obtain⟨Z,es,Y,t,e,c⟩:=x;exact⟨Z,es,Y,t,k _ _ (.inl rfl) e,c⟩
 |ins C dx fs=>
  obtain⟨d,z,ne,e,mA,⟨X,es,Y,e2,c⟩,r⟩:=x;exact⟨Q _ d,z,ne,k _ _ (.inl rfl) e,mA,⟨X,es,Y,k _ _ (.inr d) e2,c⟩,r⟩
 |own y=>obtain⟨Z,e⟩:=x;exact⟨Z,k _ _ (.inl rfl) e⟩
 |xd fs=>obtain⟨mA,⟨X,es,Y,e,c⟩,r⟩:=x;exact⟨mA,⟨X,es,Y,k _ _ (.inl rfl) e,c⟩,r⟩
 |rng lo hi=>obtain⟨t,u,v,e⟩:=x;exact⟨t,u,v,k _ _ (.inl rfl) e⟩
 |frz Z u ih=>obtain⟨e,q⟩:=x;exact⟨k _ _ (.inl rfl) e,ih q⟩
 |tbl ps=>
  have e:h.get? a=ar {cls:=.none,data:=.fields ps}:=x;show h'.get? a=ar {cls:=.none,data:=.fields ps};exact k a _ (.inl rfl) e
 |met f y=>
  have e:h.get? a=ar (Sg (.ref f) (.ref y)):=x;show h'.get? a=ar (Sg (.ref f) (.ref y));exact k a _ (.inl rfl) e
 |ext φ=>obtain⟨p,⟨o,e⟩,st⟩:=x;exact⟨st _ _ p λo q=>k _ _ (.inl rfl) q,⟨o,k _ _ (.inl rfl) e⟩,st⟩
theorem kh.lt(x:kh P w H h)(e:H a=ar o):a<h.objs.size:=(x a o e).lt
theorem kh.fresh(x:kh P w H h)(e:h.objs.size<=a):H a=none:=by
 cases q:H a with
 |none=>rfl
 |some u=>exact absurd (Oe (x.lt q) e) (Pj _)
theorem kh.kept(x:kh P w H h)(k:∀b u,h.get? b=ar u->h'.get? b=ar u):kh P w H h':=λa o e=>
 (x a o e).stay (λb u _ q=>k b u q) (λ_ q=>q) λ_ _ q=>q
theorem kh.laid(x:kh P w H h)(k:∀b u,h.get? b=ar u->h'.get? b=ar u)(X:h.objs.size<=a)(Z:cy P w (upd H a o) h' a o):kh P w (upd H a o) h':=λb u e=>by
 have Y:=x.fresh X;by_cases hb:b=a
 ·subst hb;rw[bf]at e;cases e;exact Z
 ·rw[aO hb]at e;exact(x b u e).stay (λc v _ q=>k c v q) (λc q=>by rw[aO (a8 q Y)];exact q) λc xs q=>by rw[aO (a8 q Y)];exact q
end
def Rd(H:Hp)(a:b')(u:HO):Prop:=H a=ar u\/∃o,H a=ar (.frz o u)
theorem Rd.ok{P:dV}{w:d_}{H:Hp}{h:eg}{a:b'}{u:HO}(r:Rd H a u)(x:kh P w H h):cy P w H h a u:=by
 rcases r with r|⟨o,r⟩
 ·exact x a u r
 ·obtain⟨_,q⟩:=x a _ r;exact q
def LM:Option HO->Prop
 |some (.lst _)=>True
 |some (.dK _)=>True
 |some (.dT _)=>True
 |some (.set _ _)=>True
 |some (.ins _ _ _)=>True
 |some (.ext _)=>True
 |_=>False
section
variable {P:dV}{w:d_}{H:Hp}{h h':eg}{x e:b'}{o':HO}
theorem kh.write(O:kh P w H h)(W:LM (H x))(R:e=x\/H e=ar (.own x))(k:∀b u,b≠e->h.get? b=ar u->h'.get? b=ar u)(T:∃u,h'.get? e=ar u)
  (U:cy P w (upd H x o') h' x o'):kh P w (upd H x o') h':=λb u q=>by
 have Z:∀c y,H c=ar (.own y)->c≠x:=λc y r z=>by subst z;rw[r]at W;exact W
 have Y:∀c xs,H c=ar (.tup xs)->c≠x:=λc xs r z=>by subst z;rw[r]at W;exact W
 by_cases hb:b=x
 ·subst hb;rw[bf]at q;cases q;exact U
 ·rw[aO hb]at q;by_cases hbe:b=e
  ·have S:H b=ar (.own x):=by
    rcases R with z|z
    ·exact absurd (hbe.trans z) hb
    ·rw[hbe];exact z
   rw[q]at S;cases S;obtain⟨v,Q⟩:=T;exact⟨v,by rw[hbe];exact Q⟩
  ·refine(O b u q).stay (λc v X r=>k c v ?_ r) (λc r=>by rw[aO (Z c b r)];exact r) λc xs r=>by rw[aO (Y c xs r)];exact r
   rcases X with rfl|X
   ·exact hbe
   ·rintro rfl;rcases R with z|z
    ·exact Z c b X z
    ·rw[X]at z;cases z;exact hb rfl
end
structure Un(fs ex:List b')(H H':Hp)(h h':eg):Prop where
 keep:∀b o,h.get? b=ar o->H b=none->b∉fs->b∉ex->h'.get? b=ar o
 slot:∀b o,h.get? b=ar o->H b=none->b∈fs->b∉ex->∃sl,h'.get? b=ar {o with slots:=sl}
 free:∀b o,h.get? b=ar o->H b=none->b∉ex->H' b=none
 there:∀b o,h.get? b=ar o->b∉ex->∃o',h'.get? b=ar o'
 tups:∀b xs,H b=ar (.tup xs)->H' b=ar (.tup xs)
 frzs:∀b o u,H b=ar (.frz o u)->H' b=ar (.frz o u)
 tbls:∀b ps,H b=ar (.tbl ps)->∃more,H' b=ar (.tbl (ps++more))
section
variable {fs fs' ex ex':List b'}{H H1 H2:Hp}{h h1 h2 h':eg}{a x e:b'}{o:HO}
theorem Un.any(u:Un fs ex H H1 h h1){b:b'}{Z:Obj}(q:h.get? b=ar Z)(n:H b=none)(Y:b∉ex):∃sl,h1.get? b=ar {Z with slots:=sl}:=by
 by_cases hb:b∈fs
 ·exact u.slot b Z q n hb Y
 ·exact⟨Z.slots,u.keep b Z q n hb Y⟩
theorem Un.kept(k:∀b u,h.get? b=ar u->h'.get? b=ar u):Un fs ex H H h h':=
 ⟨λb Z q _ _ _=>k b Z q,λb Z q _ _ _=>⟨Z.slots,k b Z q⟩,λ_ _ _ n _=>n,λb Z q _=>⟨Z,k b Z q⟩,λ_ _ q=>q,λ_ _ _ q=>q,λ_ Y q=>⟨#[],by rw[q];simp⟩⟩
theorem Un.refl:Un fs ex H H h h:=Un.kept λ_ _ q=>q
theorem Un.laid(k:∀b u,h.get? b=ar u->h'.get? b=ar u)(Y:h.objs.size<=a)(Z:H a=none):Un fs ex H (upd H a o) h h' where
 keep:=λb u q _ _ _=>k b u q
 slot:=λb u q _ _ _=>⟨u.slots,k b u q⟩
 free:=λb u q n _=>by rw[aO (Ob (Oe (NV q) Y))];exact n
 there:=λb u q _=>⟨u,k b u q⟩
 tups:=λb xs q=>by rw[aO (a8 q Z)];exact q
 frzs:=λb u xs q=>by rw[aO (a8 q Z)];exact q
 tbls:=λb X q=>⟨#[],by rw[aO (a8 q Z),q];simp⟩
theorem Un.write(Z:LM (H x))(U:e=x\/H e=ar (.own x))(k:∀b u,b≠e->h.get? b=ar u->h'.get? b=ar u)(Y:∃u,h'.get? e=ar u):Un fs ex H (upd H x o) h h':=by
 have X:∀b,H b=none->b≠x:=λb n z=>by subst z;rw[n]at Z;exact Z
 have W:∀b,H b=none->b≠e:=λb n z=>by
  subst z;rcases U with r|r
  ·exact X b n r
  ·rw[n]at r;cases r
 have hm:∀b u,H b=ar u->¬ LM (ar u)->b≠x:=λb u q nm z=>by subst z;rw[q]at Z;exact nm Z
 refine⟨λb u q n _ _=>k b u (W b n) q,λb u q n _ _=>⟨u.slots,k b u (W b n) q⟩,λb u q n _=>by rw[aO (X b n)];exact n,λb u q _=>?_,
  λb xs q=>by rw[aO (hm b _ q λz=>z)];exact q,λb u xs q=>by rw[aO (hm b _ q λz=>z)];exact q,λb T q=>⟨#[],by rw[aO (hm b _ q λz=>z),q];simp⟩⟩
 by_cases hbe:b=e
 ·subst hbe;exact Y
 ·exact⟨u,k b u hbe q⟩
end
def LN(h:eg)(H:Hp):List Addr:=(dq h.objs.size).filter λa=>(H a).isSome
def nI(h:eg)(H:Hp):Heap:=W.hideAll h (LN h H)
theorem ug(h:eg)(H:Hp):(nI h H).objs.size=h.objs.size:=W.hideAll_size _ _
theorem rD{h:eg}{H:Hp}{b:b'}{o:Obj}(e:h.get? b=ar o)(n:H b=none):(nI h H).get? b=ar o:=
 W.hideAll_get _ e λhm=>by have q:(H b).isSome=true:=(NU.mp hm).2;rw[n]at q;simp at q
theorem Aw{h:eg}{H:Hp}{b:b'}{o:Obj}(e:(nI h H).get? b=ar o):h.get? b=ar o/\H b=none:=by
 have Z:h.get? b=ar o:=W.of_hideAll (LN h H) e;refine⟨Z,?_⟩;cases q:H b with
 |none=>rfl
 |some x=>
  have hm:b∈LN h H:=NU.mpr ⟨N0.mpr (NV Z),by simp[q]⟩;have z:(nI h H).get? b=none:=W.hideAll_none (LN h H) hm;rw[z]at e;cases e
def n8(g h:eg)(L:b'):List (b'×Obj):=(dq h.objs.size).filterMap λa=>if a=L\/(g.get? a).isSome=b_ then none else (h.get? a).map λo=>(a,o)
theorem wY{g h:eg}{L a:b'}{o:Obj}(Y:a≠L)(X:g.get? a=none)(Z:h.get? a=ar o):(a,o)∈n8 g h L:=
 Pr.mpr ⟨a,N0.mpr (NV Z),by simp[Y,X,Z]⟩
theorem rE{g h:eg}{L:b'}{p:b'×Obj}(Z:p∈n8 g h L):p.1≠L/\g.get? p.1=none/\h.get? p.1=ar p.2:=by
 obtain⟨b,_,e⟩:=Pr.mp Z;split at e
 ·cases e
 ·rename_i hn
  cases q:h.get? b with
  |none=>rw[q]at e;simp at e
  |some u=>
   rw[q]at e;simp only[Option.map_some,Option.some.injEq]at e;subst e;refine⟨λz=>hn (.inl z),?_,q⟩;show g.get? b=none;cases r:g.get? b with
   |none=>rfl
   |some v=>exact(hn (.inr (by simp[r]))).elim
def rest(g h:eg)(L d:b'):List (b'×Obj):=(n8 g h L).filter λp=>decide (p.1≠d)
theorem rF{g h:eg}{L:b'}:News g L h (n8 g h L):=λp Z=>let ⟨a,b,c⟩:=rE Z;⟨c,a,b⟩
structure Mod(K:cC)(mg:Str->Option a_)(base:eg):Prop where
 kin:K.In base
 glob:base.Ns e_ mg
 blt:∃mb,base.Ns u5 mb/\∀x:Str,x≠"__name__"->mb x=k_ x
 nolimit:base.NoLimit
structure Cx where
 prog:dV
 w:d_
 K:cC
 mg:Str->Option a_
 base:eg
 A:f_
 N:List Str
 s₀:cn
 H₀:Hp
 env:Env
 outer:List Env
 stack:List Env
 ex:List b'
 fn:Str->Bool
 calm:Bool
 pn:List (b'×Obj)
 xe:a_->cn->Prop
def qv(l:List Env):List Addr:=l.filterMap (·.frame)
abbrev Cx.fs(X:Cx):List Addr:=qv X.outer
def Hs(sc:Scope)(x:Str):Prop:=sc.names.lookup x=ar .local\/sc.names.lookup x=ar .cell\/sc.names.lookup x=ar .free
def Loc(sc:Scope)(x:Str):Prop:=sc.names.lookup x=ar .local\/sc.names.lookup x=ar .cell
def Look(env:Env)(h:eg)(m:Str->Option a_)(x:Str)(u:a_):Prop:=
 (env.kindOf x=ar .local/\m x=ar u)\/((env.kindOf x=ar .cell\/env.kindOf x=ar .free)/\∃c,env.cells.lookup x=ar c/\h.IsCell c (ar u))
structure Cx.Ok(X:Cx):Prop where
 mod:Mod X.K X.mg X.base
 kind:X.env.scope.kind= .function
 glob:X.env.globals=e_
 blt:X.env.builtins=u5
 above:X.s₀.heap.objs.size<=X.env.locals
 inj:∀x y c,X.env.cells.lookup x=ar c->X.env.cells.lookup y=ar c->x=y
 has:∀x,(X.env.kindOf x=ar .cell\/X.env.kindOf x=ar .free)->∃c,X.env.cells.lookup x=ar c
 cab:∀x c,X.fn x=b_->X.env.cells.lookup x=ar c->X.s₀.heap.objs.size<=c
 hd:X.calm=b_->X.A.handled=none
 frames:X.A.frames=ar X.stack
 stk:X.stack=X.outer\/(X.stack=X.env::X.outer/\X.env.frame=ar X.env.locals)
 exf:∀b∈X.ex,b≠X.env.locals/\∀x c,X.env.cells.lookup x=ar c->c≠b
 bs:∀b o,X.base.get? b=ar o->X.s₀.heap.get? b=ar o/\X.H₀ b=none
 bsz:X.base.objs.size<=X.s₀.heap.objs.size
 noex:∀b o,X.base.get? b=ar o->b∉X.ex
 exfs:∀b∈X.ex,b∉X.fs
 funs:X.s₀.heap.FunFrames X.base X.outer
 frf:∀b∈X.fs,X.H₀ b=none
structure Inv(X:Cx)(pins:List (b'×Obj))(σ:List (Option V))(H:Hp)(s:cn):Prop where
 ok:X.Ok
 os:s.os=X.s₀.os
 bare:w_ s.gens
 base:Un X.fs X.ex X.H₀ H X.s₀.heap s.heap
 loc:∃m,s.heap.Ns X.env.locals m/\∀(i:Nat) (x:Str) (v:V),X.N[i]? =ar x->σ[i]? =ar (ar v)->Hs X.env.scope x->∃u,RelV v u/\Look X.env s.heap m x u
 cell:∀x c,X.env.cells.lookup x=ar c->∃v,s.heap.IsCell c v
 free:H X.env.locals=none
 freeC:∀x c,X.env.cells.lookup x=ar c->H c=none
 pin:∀p∈X.pn++pins,s.heap.get? p.1=ar p.2/\H p.1=none/\p.1≠X.env.locals/\p.1∉X.fs/\∀v,p.2.data≠ .cell v
 hok:kh X.prog X.w H s.heap
 len:σ.length=X.N.length
section
variable {X:Cx}{pins:List (b'×Obj)}{σ:List (Option V)}{H H':Hp}{s:cn}{h':eg}
theorem Cx.Ok.nofr(Z:X.Ok){b:b'}{o:Obj}(e:X.base.get? b=ar o):b∉X.fs:=λY=>by have:=(Z.funs.mem Y).1;rw[e]at this;cases this
theorem Inv.bs(I:Inv X pins σ H s):∀b o,X.base.get? b=ar o->s.heap.get? b=ar o/\H b=none:=λb o e=>
 ⟨I.base.keep b o (I.ok.bs b o e).1 (I.ok.bs b o e).2 (I.ok.nofr e) (I.ok.noex b o e),I.base.free b o (I.ok.bs b o e).1 (I.ok.bs b o e).2 (I.ok.noex b o e)⟩
theorem Inv.bk(I:Inv X pins σ H s):∀b o,X.base.get? b=ar o->s.heap.get? b=ar o:=λb o e=>(I.bs b o e).1
theorem Inv.mod(I:Inv X pins σ H s):Mod X.K X.mg X.base:=I.ok.mod
theorem Inv.kIn(I:Inv X pins σ H s):X.K.In s.heap:=I.ok.mod.kin.keeps I.bk
theorem Inv.fr(I:Inv X pins σ H s):∃m,Fr X.base X.env.locals s.heap m:=
 let ⟨m,hn,_⟩:=I.loc
 ⟨m,hn,I.bk,NZ I.ok.bsz I.ok.above⟩
theorem Inv.lt(I:Inv X pins σ H s):X.env.locals<s.heap.objs.size:=let ⟨_,hn,_⟩:=I.loc;hn.lt
theorem Inv.sz(I:Inv X pins σ H s):X.s₀.heap.objs.size<=s.heap.objs.size:=NZ I.ok.above (Qi I.lt)
theorem Inv.nofs(I:Inv X pins σ H s){a:b'}(h:s.heap.objs.size<=a):a∉X.fs:=λZ=>by obtain⟨_,o,Y,_⟩:=I.ok.funs.mem Z;exact absurd (Oe (NV Y) (NZ I.sz h)) (Pj _)
theorem Inv.cne(I:Inv X pins σ H s):∀x c,X.env.cells.lookup x=ar c->c≠X.env.locals:=λx c e z=>by obtain⟨v,o,W,hd⟩:=I.cell x c e;obtain⟨m,⟨T,es,U,Z,Y,_⟩,_⟩:=I.loc;rw[z,Z]at W;cases W;rw[Y]at hd;cases hd
theorem Inv.funs(I:Inv X pins σ H s):s.heap.FunFrames X.base X.outer:=by
 have all:∀(l:List Env),(∀b∈qv l,b∈X.fs)->X.s₀.heap.FunFrames X.base l->s.heap.FunFrames X.base l:=by
  intro l
  induction l with
  |nil=>intro _ _;trivial
  |cons env r ih=>
   intro hs U;obtain⟨R,⟨L,o,hf,W,T,hd⟩,S⟩:=U;have Y:L∈X.fs:=hs L (by unfold qv;rw[Qg,hf];exact Ol);obtain⟨Q,e⟩:=I.base.slot L o T (I.ok.frf L Y) Y λz=>I.ok.exfs L z Y;exact⟨R,⟨L,_,hf,W,e,hd⟩,ih (λb Z=>hs b (by unfold qv;rw[Qg,hf];exact N7 _ Z)) S⟩
 exact all X.outer (λ_ Z=>Z) I.ok.funs
theorem Inv.stack(I:Inv X pins σ H s):s.heap.FunFrames X.base X.stack:=by
 rcases I.ok.stk with e|⟨e,hf⟩
 ·rw[e];exact I.funs
 ·rw[e];obtain⟨m,Z,_⟩:=I.loc;refine .cons (by rw[I.ok.kind];decide) hf Z ?_ I.funs;exact OU (NZ I.ok.bsz I.ok.above)
theorem Inv.stkSub(I:Inv X pins σ H s):∀b∈qv X.stack,b∈X.env.locals::X.fs:=λb Z=>by
 rcases I.ok.stk with e|⟨e,hf⟩
 ·rw[e]at Z;exact N7 _ Z
 ·rw[e]at Z;unfold qv at Z;rw[Qg,hf]at Z;exact Z
theorem Inv.stkFree(I:Inv X pins σ H s):∀b∈qv X.stack,H b=none:=λb Z=>by
 rcases N6.mp (I.stkSub b Z)with e|Z
 ·rw[e];exact I.free
 ·obtain⟨_,o,Y,_⟩:=I.ok.funs.mem Z;exact I.base.free b o Y (I.ok.frf b Z) λz=>I.ok.exfs b z Z
theorem Inv.step{g':Array J'}{t':Nat}{d':Drawn}{ch:List b'}(I:Inv X pins σ H s)
  (W:∀b∈ch,(b∈X.ex\/X.s₀.heap.objs.size<=b)/\b≠X.env.locals/\(∀x c,X.env.cells.lookup x=ar c->c≠b)/\∀p∈X.pn++pins,p.1≠b)
  (keep:∀b o,b≠X.env.locals->b∉X.fs->b∉ch->s.heap.get? b=ar o->H b=none->h'.get? b=ar o)
  (S:∀b o,b≠X.env.locals->b∈X.fs->b∉ch->s.heap.get? b=ar o->H b=none->∃F,h'.get? b=ar {o with slots:=F}) (Y:∀b o,b∉ch->s.heap.get? b=ar o->H b=none->H' b=none)
  (Q:∀b o,b∉ch->s.heap.get? b=ar o->∃J,h'.get? b=ar J)
  (K:∀b xs,H b=ar (.tup xs)->H' b=ar (.tup xs)) (L:∀b o u,H b=ar (.frz o u)->H' b=ar (.frz o u)) (N:∀b G,H b=ar (.tbl G)->∃more,H' b=ar (.tbl (G++more)))
  (ns:∀m,s.heap.Ns X.env.locals m->h'.Ns X.env.locals m) (C:kh X.prog X.w H' h') (j:w_ g'):
  Inv X pins σ H' {s with heap:=h',gens:=g',drawn:=d',toks:=t'}:=by
 have O:∀b o,X.s₀.heap.get? b=ar o->b≠X.env.locals:=λb o e=>Ob (Oe (NV e) I.ok.above);have T:∀b o,X.s₀.heap.get? b=ar o->b∉X.ex->b∉ch:=λb o e Z R=>by
  rcases (W b R).1 with z|z
  ·exact Z z
  ·exact absurd (Oe (NV e) z) (Pj _)
 have cellK:∀x c,X.env.cells.lookup x=ar c->∀v,s.heap.IsCell c v->h'.IsCell c v:=λx c e v ⟨o,P,hd⟩=>by
  have U:c∉ch:=λz=>(W c z).2.2.1 x c e rfl;by_cases hc:c∈X.fs
  ·obtain⟨F,q⟩:=S c o (I.cne x c e) hc U P (I.freeC x c e);exact⟨_,q,hd⟩
  ·exact⟨o,keep c o (I.cne x c e) hc U P (I.freeC x c e),hd⟩
 refine⟨I.ok,I.os,j,⟨λb o e n R Z=>?_,λb o e n R Z=>?_,λb o e n Z=>?_,λb o e Z=>?_,λb xs e=>K b xs (I.base.tups b xs e),λb o xs e=>L b o xs (I.base.frzs b o xs e),λb G e=>?_⟩,?_,λx c e=>?_,?_,λx c e=>?_,λp A=>?_,C,I.len⟩
 ·exact keep b o (O b o e) R (T b o e Z) (I.base.keep b o e n R Z) (I.base.free b o e n Z)
 ·obtain⟨F,e1⟩:=I.base.slot b o e n R Z;obtain⟨E,e2⟩:=S b _ (O b o e) R (T b o e Z) e1 (I.base.free b o e n Z);exact⟨E,e2⟩
 ·obtain⟨J,e1⟩:=I.base.there b o e Z;exact Y b J (T b o e Z) e1 (I.base.free b o e n Z)
 ·obtain⟨J,e1⟩:=I.base.there b o e Z;exact Q b J (T b o e Z) e1
 ·obtain⟨t,e1⟩:=I.base.tbls b G e;obtain⟨h,e2⟩:=N b _ e1;exact⟨t++h,by rw[e2,Array.append_assoc]⟩
 ·obtain⟨m,y,g⟩:=I.loc;refine⟨m,ns m y,λi x v e1 e2 f=>?_⟩;obtain⟨u,r,l⟩:=g i x v e1 e2 f;refine⟨u,r,?_⟩;rcases l with l|⟨k,c,e,z⟩
  ·exact .inl l
  ·exact .inr ⟨k,c,e,cellK x c e _ z⟩
 ·obtain⟨v,z⟩:=I.cell x c e;exact⟨v,cellK x c e v z⟩
 ·obtain⟨m,⟨o,_,_,P,_⟩,_⟩:=I.loc;exact Y _ o (λz=>(W _ z).2.1 rfl) P I.free
 ·obtain⟨v,o,P,hd⟩:=I.cell x c e;exact Y c o (λz=>(W c z).2.2.1 x c e rfl) P (I.freeC x c e)
 ·obtain⟨e,n,ne,B,d⟩:=I.pin p A;have U:p.1∉ch:=λz=>(W p.1 z).2.2.2 p A rfl;exact⟨keep p.1 p.2 ne B U e n,Y p.1 p.2 U e n,ne,B,d⟩
theorem Inv.un{t':Nat}(I:Inv X pins σ H s)(u:Un X.fs [] H H' s.heap h')(U:kh X.prog X.w H' h'):Inv X pins σ H' {s with heap:=h',toks:=t'}:=by
 obtain⟨m,⟨o,es,O,S,r⟩,_⟩:=id I.loc;obtain⟨P,Q⟩:=u.any S I.free (by simp);exact I.step (g':=s.gens) (d':=s.drawn) (ch:=[]) (λ_ z=>nomatch z) (λb o _ W _ e n=>u.keep b o e n W (by simp)) (λb o _ W _ e n=>u.slot b o e n W (by simp)) (λb o _ e n=>u.free b o e n (by simp)) (λb o _ e=>u.there b o e (by simp)) u.tups u.frzs u.tbls (λL hm=>by obtain⟨N,T,Y,Z,R⟩:=hm;rw[S]at Z;cases Z;exact⟨_,T,Y,Q,R⟩) U I.bare
theorem Inv.call{g':Array J'}{t':Nat}{d':Drawn}{ch:List b'}(I:Inv X pins σ H s)(u:Un (qv X.stack) ch H H' s.heap h')(T:kh X.prog X.w H' h')(N:w_ g')
  (W:∀b∈ch,(b∈X.ex\/X.s₀.heap.objs.size<=b)/\b≠X.env.locals/\(∀x c,X.env.cells.lookup x=ar c->c≠b)/\∀p∈X.pn++pins,p.1≠b):
  Inv X pins σ H' {s with heap:=h',gens:=g',drawn:=d',toks:=t'}:=by
 obtain⟨m,⟨o,es,K,Q,r⟩,_⟩:=id I.loc;obtain⟨L,R⟩:=u.any Q I.free λz=>(W _ z).2.1 rfl;exact I.step (ch:=ch) W (λb o R P Z e n=>u.keep b o e n (λz=>(N6.mp (I.stkSub b z)).elim R P) Z) (λb o _ _ Z e n=>u.any e n Z) (λb o Z e n=>u.free b o e n Z) (λb o Z e=>u.there b o e Z) u.tups u.frzs u.tbls (λG hm=>by obtain⟨J,S,U,Y,O⟩:=hm;rw[Q]at Y;cases Y;exact⟨_,S,U,R,O⟩) T N
theorem Inv.turned{t':Nat}{it:b'}(I:Inv X pins σ H s)(k:∀b o,b≠it->s.heap.get? b=ar o->h'.get? b=ar o)(S:H it=none)(W:it≠X.env.locals)
  (U:it∈X.ex\/X.s₀.heap.objs.size<=it) (T:∀x c,X.env.cells.lookup x=ar c->c≠it) (P:∀p∈X.pn++pins,p.1≠it):Inv X pins σ H {s with heap:=h',toks:=t'}:=by
 have Y:∀b u,H b=ar u->b≠it:=λb u e z=>by rw[z,S]at e;cases e
 refine I.step (g':=s.gens) (d':=s.drawn) (ch:=[it]) (λb O=>?_) (λb o _ _ Z e _=>k b o (λz=>Z (by simp[z])) e) (λb o _ _ Z e _=>⟨o.slots,k b o (λz=>Z (by simp[z])) e⟩) (λ_ _ _ _ n=>n)
  (λb o Z e=>⟨o,k b o (λz=>Z (by simp[z])) e⟩) (λ_ _ e=>e) (λ_ _ _ e=>e) (λb N e=>⟨#[],by rw[e];simp⟩) (λm hm=>?_) (λb u e=>?_) I.bare
 ·have e:b=it:=by simpa using O
  subst e;exact⟨U,W,T,P⟩
 ·obtain⟨o,es,Q,R,r⟩:=hm;exact⟨o,es,Q,k _ o (lx W) R,r⟩
 ·refine(I.hok b u e).stay (λc v Z q=>k c v ?_ q) (λ_ q=>q) λ_ _ q=>q;rcases Z with z|z
  ·rw[z];exact Y b u e
  ·exact Y c _ z
theorem Inv.tok(I:Inv X pins σ H s)(t:Nat):Inv X pins σ H {s with toks:=t}:=I.un (h':=s.heap) (t':=t) Un.refl I.hok
theorem Inv.kept{t':Nat}(I:Inv X pins σ H s)(k:∀b u,s.heap.get? b=ar u->h'.get? b=ar u):Inv X pins σ H {s with heap:=h',toks:=t'}:=I.un (Un.kept k) (I.hok.kept k)
theorem Inv.laid{a:b'}{o:HO}{t':Nat}(I:Inv X pins σ H s)(k:∀b u,s.heap.get? b=ar u->h'.get? b=ar u)(Y:s.heap.objs.size<=a)(Z:cy X.prog X.w (upd H a o) h' a o):
  Inv X pins σ (upd H a o) {s with heap:=h',toks:=t'}:=I.un (Un.laid k Y (I.hok.fresh Y)) (I.hok.laid k Y Z)
theorem Inv.write{x e:b'}{o:HO}{t':Nat}(I:Inv X pins σ H s)(W:LM (H x))(U:e=x\/H e=ar (.own x))(k:∀b u,b≠e->s.heap.get? b=ar u->h'.get? b=ar u)(Z:∃u,h'.get? e=ar u)
  (Y:cy X.prog X.w (upd H x o) h' x o):Inv X pins σ (upd H x o) {s with heap:=h',toks:=t'}:=I.un (Un.write W U k Z) (I.hok.write W U k Z Y)
theorem Inv.pins_of{Z:List (b'×Obj)}(I:Inv X pins σ H s)(h:∀p∈Z,s.heap.get? p.1=ar p.2/\H p.1=none/\p.1≠X.env.locals/\p.1∉X.fs/\∀v,p.2.data≠ .cell v):Inv X Z σ H s:=
 ⟨I.ok,I.os,I.bare,I.base,I.loc,I.cell,I.free,I.freeC,λp Y=>(OB.mp Y).elim (λz=>I.pin p (PD _ z)) (h p),I.hok,I.len⟩
theorem wZ{N:List Str}(Z:N.Nodup){i j:Nat}{x:Str}(a:N[i]? =ar x)(b:N[j]? =ar x):i=j:=by obtain⟨Y,e1⟩:=NX.mp a;obtain⟨W,e2⟩:=NX.mp b;exact(QH Z).mp (e1.trans e2.symm)
theorem uh{M:SH}{A:f_}{E:a_->cn->Prop}{i:Nat}{x:Str}{v:V}{u:a_}{Q:Unit->cn->Prop}(I:Inv X pins σ H s)(hN:X.N.Nodup)(L:X.N[i]? =ar x)(Y:Loc X.env.scope x)(r:RelV v u)
  (h:∀s',Inv X pins (σ.set i (ar v)) H s'->(∃a,y4 a s.heap s'.heap/\(a=X.env.locals\/X.env.cells.lookup x=ar a))->Q () s') (hf:X.fn x=b_\/X.env.scope.names.lookup x=ar .local:=by first|exact .inl rfl|exact .inr rfl|assumption):ed M A (storeName X.env x u) Q E s:=by
 obtain⟨m,B,hl⟩:=id I.loc;have P:(X.env.scope.kind== .class||(X.env.scope.kind== .module && X.env.locals !=X.env.globals))=false:=by rw[I.ok.kind];rfl
 have U:i<σ.length:=by rw[I.len];exact(NX.mp L).1
 have S:=I.cne;have tracked:∀{a:b'} {h':eg},(∃o,s.heap.get? a=ar o/\H a=none)->y4 a s.heap h'->kh X.prog X.w H h':=λ{a h'} ha hs b ob e=>by
  obtain⟨_,_,W⟩:=ha;refine(I.hok b ob e).stay (λc F Z q=>(hs.2 c ?_).trans q) (λ_ q=>q) λ_ _ q=>q;rintro rfl;rcases Z with rfl|Z
  ·rw[W]at e;cases e
  ·rw[W]at Z;cases Z
 rcases Y with hk|hk
 ·refine wpAny_storeName_local hk B (λh' l hs=>?_) P;obtain⟨oL,_,_,a6,_⟩:=id B;refine h _ ⟨I.ok,I.os,I.bare,⟨λb o e n T Y=>?_,λb o e n T Y=>?_,I.base.free,λb o e Y=>?_,I.base.tups,I.base.frzs,I.base.tbls⟩,⟨_,l,λj y f e1 e2 e3=>?_⟩,λy c e=>?_,I.free,I.freeC,λp t=>?_,tracked ⟨oL,a6,I.free⟩ hs,by simpa using I.len⟩ ⟨_,hs,.inl rfl⟩
  ·exact(hs.2 b (Ob (Oe (NV e) I.ok.above))).trans (I.base.keep b o e n T Y)
  ·obtain⟨sl,e1⟩:=I.base.slot b o e n T Y;exact⟨sl,(hs.2 b (Ob (Oe (NV e) I.ok.above))).trans e1⟩
  ·obtain⟨o',e1⟩:=I.base.there b o e Y;exact⟨o',(hs.2 b (Ob (Oe (NV e) I.ok.above))).trans e1⟩
  ·by_cases hj:j=i
   ·subst hj;rw[L]at e1;cases e1;rw[OX U]at e2;cases e2;exact⟨u,r,.inl ⟨hk,by simp⟩⟩
   ·rw[OV (lx hj)]at e2;obtain⟨u',g,q⟩:=hl j y f e1 e2 e3;refine⟨u',g,?_⟩;rcases q with⟨k,e⟩|⟨k,c,e,z⟩
    ·refine .inl ⟨k,?_⟩;have:y≠x:=λe=>hj (wZ hN e1 (e ▸ L));simp[this,e]
    ·exact .inr ⟨k,c,e,z.sameBut hs (S y c e)⟩
  ·obtain⟨F,z⟩:=I.cell y c e;exact⟨F,z.sameBut hs (S y c e)⟩
  ·obtain⟨e,n,ne,C,d⟩:=I.pin p t;exact⟨(hs.2 p.1 ne).trans e,n,ne,C,d⟩
 ·have R:X.fn x=true:=by
   rcases hf with z|z
   ·exact z
   ·rw[z]at hk;cases hk
  obtain⟨c,Z⟩:=I.ok.has x (.inl hk);obtain⟨F,z⟩:=I.cell x c Z;refine wpAny_storeName_cell I.ok.kind hk Z z (λh' O hs=>?_);obtain⟨oc,J,K⟩:=id z;refine h {s with heap:=h'} ⟨I.ok,I.os,I.bare,⟨λb o e n T Y=>?_,λb o e n T Y=>?_,I.base.free,λb o e Y=>?_,I.base.tups,I.base.frzs,I.base.tbls⟩,⟨m,B.sameBut hs (lx (S x c Z)),λj y f e1 e2 e3=>?_⟩,λy G e=>?_,I.free,I.freeC,λp t=>?_,tracked ⟨oc,J,I.freeC x c Z⟩ hs,by simpa using I.len⟩ ⟨c,hs,.inr Z⟩
  ·exact(hs.2 b (Ob (Oe (NV e) (I.ok.cab x c R Z)))).trans (I.base.keep b o e n T Y)
  ·obtain⟨sl,e1⟩:=I.base.slot b o e n T Y;exact⟨sl,(hs.2 b (Ob (Oe (NV e) (I.ok.cab x c R Z)))).trans e1⟩
  ·obtain⟨o',e1⟩:=I.base.there b o e Y;exact⟨o',(hs.2 b (Ob (Oe (NV e) (I.ok.cab x c R Z)))).trans e1⟩
  ·by_cases hj:j=i
   ·subst hj;rw[L]at e1;cases e1;rw[OX U]at e2;cases e2;exact⟨u,r,.inr ⟨.inl hk,c,Z,O⟩⟩
   ·rw[OV (lx hj)]at e2;obtain⟨u',g,q⟩:=hl j y f e1 e2 e3;refine⟨u',g,?_⟩;rcases q with q|⟨k,G,e,z'⟩
    ·exact .inl q
    ·refine .inr ⟨k,G,e,z'.sameBut hs ?_⟩;rintro rfl;exact hj (wZ hN e1 (I.ok.inj _ _ _ e Z ▸ L))
  ·by_cases hcc:G=c
   ·subst hcc;exact⟨_,O⟩
   ·obtain⟨w2,z2⟩:=I.cell y G e;exact⟨w2,z2.sameBut hs hcc⟩
  ·obtain⟨e,n,ne,C,d⟩:=I.pin p t;refine⟨(hs.2 p.1 ?_).trans e,n,ne,C,d⟩;intro q;rw[q,J]at e;have q':oc=p.2:=Oj e;exact d F (by rw[<-q'];exact K)
theorem oa{M:SH}{A:f_}{E:a_->cn->Prop}{i:Nat}{x:Str}{v:V}{u:a_}{Q:Unit->cn->Prop}(I:Inv X pins σ H s)(U:X.N.Nodup)(W:X.N[i]? =ar x)(Y:Loc X.env.scope x)(r:RelV v u)
  (h:∀s',Inv X pins (σ.set i (ar v)) H s'->Q () s') (T:X.fn x=b_\/X.env.scope.names.lookup x=ar .local:=by first|exact .inl rfl|exact .inr rfl|assumption):ed M A (storeName X.env x u) Q E s:=
 uh I U W Y r (λs' Z _=>h s' Z) T
theorem Inv.call'{s':cn}{ch:List b'}(I:Inv X pins σ H s)(U:s'.os=s.os)(u:Un (qv X.stack) ch H H' s.heap s'.heap)(Z:kh X.prog X.w H' s'.heap)(T:w_ s'.gens)
  (Y:∀b∈ch,(b∈X.ex\/X.s₀.heap.objs.size<=b)/\b≠X.env.locals/\(∀x c,X.env.cells.lookup x=ar c->c≠b)/\∀p∈X.pn++pins,p.1≠b):Inv X pins σ H' s':=by
 obtain⟨h',g',d',t',W⟩:=s';have e:W=s.os:=U;subst e;exact I.call (g':=g') (t':=t') (d':=d') u Z T Y
end
abbrev XK:=a_->Option b'->Hp->Prop
abbrev St:=List (Option V)
abbrev VK:=V->Hp->Prop
abbrev TE:=St->Hp->VK->Prop
abbrev TT:=St->Hp->(Bool->Hp->Prop)->Prop
abbrev TA:=St->Hp->(List V->Hp->Prop)->Prop
structure Ends where
 nx:St->Hp->Prop
 rt:VK
 bk:St->Hp->Prop:=λ_ _=>False
 ct:St->Hp->Prop:=λ_ _=>False
abbrev TS:=Ends->St->Hp->Prop
def EP(X:Cx)(pins:List (b'×Obj))(σ:St)(Q:VK)(u:a_)(s':cn):Prop:=∃v H',Inv X pins σ H' s'/\RelV v u/\Q v H'
def TP(X:Cx)(pins:List (b'×Obj))(σ:St)(Q:Bool->Hp->Prop)(b:Bool)(s':cn):Prop:=∃H',Inv X pins σ H' s'/\Q b H'
def AP(X:Cx)(pins:List (b'×Obj))(σ:St)(Q:List V->Hp->Prop)(us:List a_)(s':cn):Prop:=∃vs H',Inv X pins σ H' s'/\bJ vs us/\Q vs H'
def SP(X:Cx)(pins:List (b'×Obj))(D:Ends)(f:Flow)(s':cn):Prop:=
 match f with
 | .next=>∃ σ' H',Inv X pins σ' H' s'/\D.nx σ' H'
 | .brk=>∃ σ' H',Inv X pins σ' H' s'/\D.bk σ' H'
 | .cont=>∃ σ' H',Inv X pins σ' H' s'/\D.ct σ' H'
 | .ret u=>∃v σ' H',Inv X pins σ' H' s'/\RelV v u/\D.rt v H'
def PE(X:Cx)(e:Expr)(t:TE):Prop:=
 ∀(pins:List (b'×Obj)) (s:cn) (σ:St) (H:Hp) (Q:VK),Inv X pins σ H s->t σ H Q->ed (er X.prog X.w) X.A (hD e X.env) (EP X pins σ Q) X.xe s
def PT(X:Cx)(e:Expr)(t:TT):Prop:=
 ∀(pins:List (b'×Obj)) (s:cn) (σ:St) (H:Hp) (Q:Bool->Hp->Prop),Inv X pins σ H s->t σ H Q->ed (er X.prog X.w) X.A (isTrue e X.env (hD e X.env)) (TP X pins σ Q) X.xe s
def PW(X:Cx)(e:Expr)(t:TT):Prop:=
 ∀(whole:Sem a_) (pins:List (b'×Obj)) (s:cn) (σ:St) (H:Hp) (Q:Bool->Hp->Prop),Inv X pins σ H s->t σ H Q->ed (er X.prog X.w) X.A (isTrue e X.env whole) (TP X pins σ Q) X.xe s
theorem PW.pt{X:Cx}{e:Expr}{t:TT}(h:PW X e t):PT X e t:=h _
def PA(X:Cx)(es:List Expr)(t:TA):Prop:=
 ∀(pos:Pos) (pins:List (b'×Obj)) (s:cn) (σ:St) (H:Hp) (Q:List V->Hp->Prop),Inv X pins σ H s->t σ H Q->ed (er X.prog X.w) X.A (spliced (oo pos (dt es X.env))) (AP X pins σ Q) X.xe s
def PS(X:Cx)(st:n_)(t:TS):Prop:=
 ∀(pins:List (b'×Obj)) (s:cn) (σ:St) (H:Hp) (D:Ends),Inv X pins σ H s->t D σ H->ed (er X.prog X.w) X.A (exec st X.env) (SP X pins D) X.xe s
def tK(X:Cx)(st:List n_)(t:TS):Prop:=
 ∀(pins:List (b'×Obj)) (s:cn) (σ:St) (H:Hp) (D:Ends),Inv X pins σ H s->t D σ H->ed (er X.prog X.w) X.A (execs st X.env) (SP X pins D) X.xe s
theorem eM{α:Type}{t:Sem α}{Q Z:α->cn->Prop}{M:SH}{A:f_}{E:a_->cn->Prop}{s:cn}(h:ed M A t Q E s)(Y:∀a s,Q a s->Z a s):ed M A t Z E s:=Oq h Y λ_ _ x=>x
section
variable {X:Cx}
def Ki(i:Nat):TE:=λσ H Q=>∃v,σ[i]? =ar (ar v)/\Q v H
def tC(v:V):TE:=λ_ H Q=>Q v H
theorem CU{i:Nat}{x:Str}{pos:Pos}(S:X.N[i]? =ar x)(T:Hs X.env.scope x)(Y:(x==("__debug__":Str))=false:=by decide)(Z:(x==("__classdict__":Str))=false:=by decide):PE X (.Name x pos) (Ki i):=by
 intro pins s σ H Q I h;obtain⟨v,e,h⟩:=h;obtain⟨m,W,U⟩:=I.loc;obtain⟨u,r,l⟩:=U i x v S e T;have fin:EP X pins σ Q u s:=⟨v,H,I,r,h⟩;rcases l with⟨hk,hm⟩|⟨hk,c,hc,hcell⟩
 ·exact Sr (wpAny_loadName_local I.ok.kind hk W hm fin) Y
 ·rcases hk with hk|hk
  ·exact Sr (wpAny_loadName_cell I.ok.kind hk hc hcell fin) Y
  ·exact Sr (wpAny_loadName_free I.ok.kind hk hc hcell fin Z) Y
theorem CV{i j pos}:PE X (.Constant (.int i) j pos) (tC (.int i)):=λ_ _ _ H _ I h=>wpAny_Constant_int ⟨.int i,H,I.tok _,⟨_,rfl⟩,h⟩
theorem Kj{b j pos}:PE X (.Constant (.bool b) j pos) (tC (.bl b)):=λ_ _ _ H _ I h=>Constant_bool ⟨.bl b,H,I,rfl,h⟩
theorem HV{j pos}:PE X (.Constant .none j pos) (tC .non):=λ_ _ _ H _ I h=>Constant_none ⟨.non,H,I,rfl,h⟩
theorem HW{x j pos}:PE X (.Constant (.str x) j pos) (tC (.str x)):=λ_ _ _ H _ I h=>Calls.Constant_str ⟨.str x,H,I.tok _,⟨_,rfl⟩,h⟩
def Gl(X:Cx)(x:Str):Prop:=X.env.kindOf x=ar .globalImplicit
theorem rl{E:a_->cn->Prop}{Z:List (b'×Obj)}{s:cn}{T:St}{H:Hp}{x:Str}{u:a_}{pos:Pos}{Q:a_->cn->Prop}(I:Inv X Z T H s)(U:Gl X x)(W:X.mg x=ar u)(h:Q u s)
  (Y:(x==("__debug__":Str))=false:=by decide):ed (er X.prog X.w) X.A (hD (.Name x pos) X.env) Q E s:=
 Q0 I.ok.kind U (Calls.loadGlobal_global (by rw[I.ok.glob];exact I.mod.glob.keeps I.bk) W h) Y
theorem nJ{E:a_->cn->Prop}{Z:List (b'×Obj)}{s:cn}{O:St}{H:Hp}{x:Str}{u:a_}{pos:Pos}{Q:a_->cn->Prop}(I:Inv X Z O H s)(P:Gl X x)(R:X.mg x=none)(T:k_ x=ar u)(h:Q u s)
  (U:x≠"__name__":=by decide) (S:(x==("__debug__":Str))=false:=by decide):ed (er X.prog X.w) X.A (hD (.Name x pos) X.env) Q E s:=by
 obtain⟨N,Y,W⟩:=I.mod.blt;exact Q0 I.ok.kind P (Calls.loadGlobal_builtin (by rw[I.ok.glob];exact I.mod.glob.keeps I.bk) R (by rw[I.ok.blt];exact Y.keeps I.bk) ((W x U).trans T) h) S
theorem FK{x:Str}{v:V}{u:a_}{pos:Pos}(W:Gl X x)(Y:X.mg x=ar u)(r:RelV v u)(Z:(x==("__debug__":Str))=false:=by decide):PE X (.Name x pos) (tC v):=
 λ_ _ _ H _ I h=>rl I W Y ⟨v,H,I,r,h⟩ Z
theorem FL{x:Str}{v:V}{u:a_}{pos:Pos}(T:Gl X x)(W:X.mg x=none)(Z:k_ x=ar u)(r:RelV v u)(U:x≠"__name__":=by decide)(Y:(x==("__debug__":Str))=false:=by decide):PE X (.Name x pos) (tC v):=
 λ_ _ _ H _ I h=>nJ I T W Z ⟨v,H,I,r,h⟩ U Y
variable {a b:Expr}{ta tb:TE}{pos:Pos}
theorem w5(b:Expr){op:SU}(h:op≠ .In)(Z:op≠ .NotIn):kT op b=false:=by
 have e1:(op==CmpOp.In)=false:=by cases op<;>first|rfl|exact absurd rfl h
 have e2:(op==CmpOp.NotIn)=false:=by cases op<;>first|rfl|exact absurd rfl Z
 cases b<;>simp[kT,e1,e2]
def tB(t:TE):TT:=λσ H Q=>t σ H λx H1=>∃c,x= .bl c/\Q c H1
theorem HX{e:Expr}{t:TE}(h:PE X e t)(Z:∀whole,isTrue e X.env whole=(do let v<-whole;xi e.pos;wh [v] (SL v)):=by intro _;rfl):PT X e (tB t):=by intro pins s σ H Q I hw;refine isTrue_plain (eM (h pins s σ H _ I hw) λv s1 ⟨x,H1,I1,r1,q1⟩=>?_) (Z _);obtain⟨d,rfl,q⟩:=q1;cases r1;exact OP ⟨H1,I1,q⟩
variable {tA tB':TT}{rest:List Expr}
def Mj(t u:TT):TT:=λσ H Q=>t σ H λc H1=>if c=b_ then u σ H1 Q else Q c_ H1
def Nr(t u:TT):TT:=λσ H Q=>t σ H λc H1=>if c=b_ then Q b_ H1 else u σ H1 Q
def Ml(t:TT):TT:=λσ H Q=>t σ H λc H1=>Q (!c) H1
theorem FM(Z:PT X a tA):PW X (.BoolOp .And [a] pos) tA:=by
 intro Y pins s σ H Q I h;refine isTrue_and (eM (Z pins s σ H Q I h) λc s1 e=>?_);cases c with
 |true=>exact isTrue_and_nil e
 |false=>exact e
theorem HY(Z:PT X a tA):PW X (.BoolOp .Or [a] pos) tA:=by
 intro Y pins s σ H Q I h;refine isTrue_or (eM (Z pins s σ H Q I h) λc s1 e=>?_);cases c with
 |false=>exact isTrue_or_nil e
 |true=>exact e
theorem HZ(Y:PT X a tA)(Z:PW X (.BoolOp .And (b::rest) pos) tB'):PW X (.BoolOp .And (a::b::rest) pos) (Mj tA tB'):=by
 intro W pins s σ H Q I h;refine isTrue_and (eM (Y pins s σ H _ I h) λc s1 ⟨H1,I1,q1⟩=>?_);cases c with
 |true=>exact Z W pins s1 σ H1 Q I1 q1
 |false=>exact⟨H1,I1,q1⟩
theorem Kk(Y:PT X a tA)(Z:PW X (.BoolOp .Or (b::rest) pos) tB'):PW X (.BoolOp .Or (a::b::rest) pos) (Nr tA tB'):=by
 intro W pins s σ H Q I h;refine isTrue_or (eM (Y pins s σ H _ I h) λc s1 ⟨H1,I1,q1⟩=>?_);cases c with
 |true=>exact⟨H1,I1,q1⟩
 |false=>exact Z W pins s1 σ H1 Q I1 q1
theorem Ia(Z:PT X a tA):PT X (.UnaryOp .Not a pos) (Ml tA):=by intro pins s σ H Q I h;exact isTrue_not (Z pins s σ H (λc Y=>Q (!c) Y) I h)
def Kl(ta tb:TE):TE:=λσ H Q=>ta σ H λx H1=>∃c,x= .bl c/\if c=b_ then tb σ H1 Q else Q (.bl c_) H1
def Km(ta:TE):TE:=λσ H Q=>ta σ H λx H1=>∃c,x= .bl c/\Q (.bl (!c)) H1
theorem Ib{op}{t:TE}(h:PE X a t):PE X (.BoolOp op [a] pos) t:=λpins s σ H Q I hw=>BoolOp_one (h pins s σ H Q I hw)
theorem Ie(W:PE X a ta)(Y:PE X (.BoolOp .And (b::rest) pos) tb):PE X (.BoolOp .And (a::b::rest) pos) (Kl ta tb):=by
 intro pins s σ H Q I h;refine BoolOp_and (eM (W pins s σ H _ I h) λv s1 ⟨x,H1,I1,r1,Z⟩=>?_);obtain⟨c,rfl,Z⟩:=Z;cases r1;refine OP ?_;cases c with
 |true=>exact Y pins s1 σ H1 Q I1 Z
 |false=>exact⟨.bl c_,H1,I1,rfl,Z⟩
theorem Ig(Y:PE X a ta):PE X (.UnaryOp .Not a pos) (Km ta):=by intro pins s σ H Q I h;refine UnaryOp_ (eM (Y pins s σ H _ I h) λv s1 ⟨x,H1,I1,r1,Z⟩=>?_);obtain⟨c,rfl,Z⟩:=Z;cases r1;exact not_of (OP ⟨.bl (!c),H1,I1,rfl,Z⟩)
def Nt(t:TT)(ta tb:TE):TE:=λσ H Q=>t σ H λc H1=>if c=b_ then ta σ H1 Q else tb σ H1 Q
theorem CY{c:Expr}(Y:PT X c tA)(W:PE X a ta)(Z:PE X b tb):PE X (.IfExp c a b pos) (Nt tA ta tb):=by
 intro pins s σ H Q I h;refine wpAny_IfExp (eM (Y pins s σ H _ I h) λd s1 ⟨H1,I1,q1⟩=>?_);cases d with
 |true=>exact W pins s1 σ H1 Q I1 q1
 |false=>exact Z pins s1 σ H1 Q I1 q1
end
def lQ(K:cC)(H:Hp)(a:b')(xs:List V):Prop:=
 Rd H a (.lst xs)\/
  ∃(o:Obj) (its:Array a_) (n:Nat),K.lookup a=ar o/\o.cls= .type "list"/\o.dict=none/\o.data= .seq its n/\its.size<=sizeLine/\bJ xs its.toList
def mR(K:cC)(H:Hp)(a:b')(xs:List V):Prop:=
 Rd H a (.tup xs)\/
  ∃(o:Obj) (its:Array a_) (n:Nat),K.lookup a=ar o/\o.cls= .type "tuple"/\o.data= .seq its n/\its.size<=sizeLine/\bJ xs its.toList
def Mm:a_->Option V
 | .none=>ar .non
 | .bool b=>ar (.bl b)
 | .int i _=>ar (.int i)
 | .str x _=>ar (.str x)
 | .bytes b _=>ar (.byt b)
 | .float b _=>ar (.flt b)
 | .ref a=>ar (.ref a)
 | .type n=>ar (.ty n)
 |_=>none
theorem RelV.abs{x:V}{u:a_}(r:RelV x u):Mm u=ar x:=by
 cases x with
 |non=>cases r;rfl
 |bl _=>cases r;rfl
 |int _=>obtain⟨t,rfl⟩:=r;rfl
 |str _=>obtain⟨t,rfl⟩:=r;rfl
 |byt _=>obtain⟨t,rfl⟩:=r;rfl
 |flt _=>obtain⟨t,rfl⟩:=r;rfl
 |ref _=>cases r;rfl
 |ty _=>cases r;rfl
theorem RelV.inj{x y:V}{u:a_}(r:RelV x u)(q:RelV y u):x=y:=Oj (r.abs.symm.trans q.abs)
theorem bJ.inj:∀{xs ys:List V} {us:List a_},bJ xs us->bJ ys us->xs=ys
 |_,_,_,.nil,.nil=>rfl
 |_,_,_,.cons r t,.cons r' t'=>by rw[r.inj r',bJ.inj t t']
section
variable {X:Cx}{pins:List (b'×Obj)}{σ:St}{H:Hp}{s:cn}{a:b'}{xs ys:List V}
theorem lQ.of{K:cC}(h:H a=ar (.lst xs)):lQ K H a xs:=.inl (.inl h)
theorem mR.of{K:cC}(h:H a=ar (.tup xs)):mR K H a xs:=.inl (.inl h)
theorem Inv.list(I:Inv X pins σ H s)(h:lQ X.K H a xs):∃its:List a_,bJ xs its/\PlainL s.heap a its.toArray/\xs.length<=sizeLine:=by
 rcases h with h|⟨o,its,n,hk,hc,hd,hs,hz,r⟩
 ·obtain⟨z,its,n,r,e⟩:=h.ok I.hok;exact⟨its,r,⟨_,n,e,rfl,rfl,rfl⟩,z⟩
 ·refine⟨its.toList,r,⟨o,n,I.kIn a o hk,hc,hd,by simpa using hs⟩,?_⟩;have e:=r.length;simp only[yn]at e;omega
theorem Inv.tuple(I:Inv X pins σ H s)(h:mR X.K H a xs):∃its:List a_,bJ xs its/\SD s.heap a its.toArray/\xs.length<=sizeLine:=by
 rcases h with h|⟨o,its,n,hk,hc,hs,hz,r⟩
 ·obtain⟨z,its,r,p⟩:=h.ok I.hok;exact⟨its,r,p,z.1⟩
 ·refine⟨its.toList,r,⟨o,I.kIn a o hk,hc,n,by simpa using hs⟩,?_⟩;have e:=r.length;simp only[yn]at e;omega
theorem Inv.list_inj(I:Inv X pins σ H s)(h:lQ X.K H a xs)(h':lQ X.K H a ys):xs=ys:=by
 obtain⟨its,r,⟨o,n,e,_,_,d⟩,_⟩:=I.list h;obtain⟨its',Y,⟨U,W,Z,_,_,d'⟩,_⟩:=I.list h';rw[e]at Z;cases Z;rw[d]at d';injection d' with d1 _;have:its=its':=by simpa using P6 Array.toList d1
 subst this;exact r.inj Y
theorem Inv.tuple_inj(I:Inv X pins σ H s)(h:mR X.K H a xs)(h':mR X.K H a ys):xs=ys:=by
 obtain⟨its,r,⟨o,e,_,n,d⟩,_⟩:=I.tuple h;obtain⟨its',Y,⟨U,Z,_,W,d'⟩,_⟩:=I.tuple h';rw[e]at Z;cases Z;rw[d]at d';injection d' with d1 _;have:its=its':=by simpa using P6 Array.toList d1
 subst this;exact r.inj Y
end
abbrev Cx.wish(X:Cx)(E:a_->cn->Prop):Cx:={X with xe:=E}
abbrev Cx.nox(X:Cx):Cx:=X.wish λ_ _=>False
theorem Cx.Ok.wish{X:Cx}(Z:X.Ok)(E:a_->cn->Prop):(X.wish E).Ok:=
 ⟨Z.mod,Z.kind,Z.glob,Z.blt,Z.above,Z.inj,Z.has,Z.cab,Z.hd,Z.frames,Z.stk,Z.exf,Z.bs,Z.bsz,Z.noex,Z.exfs,Z.funs,Z.frf⟩
theorem Cx.Ok.unwish{X:Cx}{E:a_->cn->Prop}(Z:(X.wish E).Ok):X.Ok:=
 ⟨Z.mod,Z.kind,Z.glob,Z.blt,Z.above,Z.inj,Z.has,Z.cab,Z.hd,Z.frames,Z.stk,Z.exf,Z.bs,Z.bsz,Z.noex,Z.exfs,Z.funs,Z.frf⟩
section
variable {X:Cx}{pins:List (b'×Obj)}{σ:St}{H:Hp}{s:cn}{E:a_->cn->Prop}
theorem Inv.wish(I:Inv X pins σ H s)(E:a_->cn->Prop):Inv (X.wish E) pins σ H s:=⟨I.ok.wish E,I.os,I.bare,I.base,I.loc,I.cell,I.free,I.freeC,I.pin,I.hok,I.len⟩
theorem Inv.unwish(I:Inv (X.wish E) pins σ H s):Inv X pins σ H s:=⟨I.ok.unwish,I.os,I.bare,I.base,I.loc,I.cell,I.free,I.freeC,I.pin,I.hok,I.len⟩
theorem SP.unwish{D:Ends}{f:Flow}{s':cn}(h:SP (X.wish E) pins D f s'):SP X pins D f s':=by
 cases f with
 |next=>obtain⟨Z,Y,I,q⟩:=h;exact⟨Z,Y,I.unwish,q⟩
 |brk=>obtain⟨Z,Y,I,q⟩:=h;exact⟨Z,Y,I.unwish,q⟩
 |cont=>obtain⟨Z,Y,I,q⟩:=h;exact⟨Z,Y,I.unwish,q⟩
 |ret u=>obtain⟨v,Z,Y,I,r,q⟩:=h;exact⟨v,Z,Y,I.unwish,r,q⟩
theorem tK.nox{st:List n_}{t:TS}(h:tK X.nox st t):tK X st t:=λpins s σ H D I hw=>
 Oq (h pins s σ H D (I.wish _) hw) (λ_ _ q=>q.unwish) λ_ _ z=>ke z
end
section
variable {X:Cx}{st:n_}{rest:List n_}{t u:TS}{e:Expr}{te:TE}{pos:Pos}
def Kn:TS:=λD σ H=>D.nx σ H
def Mn(t u:TS):TS:=λD σ H=>t {D with nx:=u D} σ H
theorem FN:tK X [] Kn:=λ_ _ σ H _ I h=>QR ⟨σ,H,I,h⟩
theorem w6(Y:PS X st t)(U:tK X rest u):tK X (st::rest) (Mn t u):=by
 intro pins s σ H D I h;refine wpAny_execs_cons (eM (Y pins s σ H {D with nx:=u D} I h) λf s1 q=>?_);cases f with
 |next=>
  obtain⟨Z,T,W,q⟩:=q;exact U pins s1 Z T D W q
 |ret v=>exact q
 |brk=>exact q
 |cont=>exact q
theorem Ax(Z:PS X st t):tK X [st] t:=by
 intro pins s σ H D I h;refine wpAny_execs_cons (eM (Z pins s σ H D I h) λf s1 q=>?_);cases f with
 |next=>exact QR q
 |ret v=>exact q
 |brk=>exact q
 |cont=>exact q
theorem Inv.quiet{Z:List (b'×Obj)}{Y:St}{H:Hp}{s:cn}(I:Inv X Z Y H s):interactive X.env=false:=by simp[interactive,I.ok.kind]
def Ko(te:TE):TS:=λD σ H=>te σ H λ_ H1=>D.nx σ H1
theorem FO(Z:PE X e te)(hs:nC e none pos.line X.env=aC false:=by rfl):PS X (.Expr e pos) (Ko te):=by intro pins s σ H D I h;exact wpAny_Expr_any (eM (Z pins s σ H _ I h) λv s1 ⟨x,H1,I1,r1,q1⟩=>⟨σ,H1,I1,q1⟩) I.quiet hs
def Mo(te:TE):TS:=λD σ H=>te σ H D.rt
theorem Ih(Z:PE X e te):PS X (.Return (ar e) pos) (Mo te):=by intro pins s σ H D I h;exact wpAny_Return_some (eM (Z pins s σ H _ I h) λv s1 ⟨x,H1,I1,r1,q1⟩=>⟨x,σ,H1,I1,r1,q1⟩)
def Mp(c:TT)(t u:TS):TS:=λD σ H=>c σ H λb H1=>if b=b_ then t D σ H1 else u D σ H1
theorem Kq{c:Expr}{a b:List n_}{Z:TT}(W:PT X c Z)(U:tK X a t)(Y:tK X b u):PS X (.If c a b pos) (Mp Z t u):=by
 intro pins s σ H D I h;refine wpAny_If (eM (W pins s σ H _ I h) λd s1 ⟨H1,I1,q1⟩=>?_);cases d with
 |true=>exact U pins s1 σ H1 D I1 q1
 |false=>exact Y pins s1 σ H1 D I1 q1
end
abbrev TG:=V->St->Hp->(St->Hp->Prop)->Prop
abbrev FP:=List V->St->Hp->(St->Hp->Prop)->Prop
def PG(X:Cx)(target:Expr)(t:TG):Prop:=
 ∀(pins:List (b'×Obj)) (s:cn) (σ:St) (H:Hp) (v:V) (u:a_) (Q:St->Hp->Prop),Inv X pins σ H s->RelV v u->t v σ H Q->
  ed (er X.prog X.w) X.A (Ic target X.env u) (λ_ s'=>∃ σ' H',Inv X pins σ' H' s'/\Q σ' H') X.xe s
def Fx(X:Cx)(ts:List Expr)(t:FP):Prop:=
 ∀(pins:List (b'×Obj)) (s:cn) (σ:St) (H:Hp) (vs:List V) (us:List a_) (Q:St->Hp->Prop),Inv X pins σ H s->bJ vs us->t vs σ H Q->
  ed (er X.prog X.w) X.A (RE ((oD ts X.env).map (·.2)) us) (λ_ s'=>∃ σ' H',Inv X pins σ' H' s'/\Q σ' H') X.xe s
abbrev FQ:=V->V->V->Hp->(Hp->Prop)->Prop
def Kr(X:Cx)(t:FQ):Prop:=
 ∀(pins:List (b'×Obj)) (s:cn) (σ:St) (H:Hp) (o i v:V) (ov iv u:a_) (Q:Hp->Prop),Inv X pins σ H s->RelV o ov->RelV i iv->RelV v u->t o i v H Q->
  ed (er X.prog X.w) X.A (S9 ov iv u) (λ_ s'=>∃H',Inv X pins σ H' s'/\Q H') X.xe s
section
variable {X:Cx}{pos:Pos}
def CZ(i:Nat):TG:=λv σ H Q=>Q (σ.set i (ar v)) H
theorem FR{i:Nat}{x:Str}(U:X.N.Nodup)(W:X.N[i]? =ar x)(Y:Loc X.env.scope x)(T:X.fn x=b_\/X.env.scope.names.lookup x=ar .local:=by first|exact .inl rfl|exact .inr rfl|assumption):PG X (.Name x pos) (CZ i):=by intro pins s σ H v u Q I r h;exact wpAny_assign_Name (oa I U W Y r (λs' Z=>⟨_,H,Z,h⟩) T)
def Mq:FP:=λvs σ H Q=>vs=[]/\Q σ H
def Ks(t:TG)(u:FP):FP:=λvs σ H Q=>∃v r,vs=v::r/\t v σ H λσ' H'=>u r σ' H' Q
theorem FS:Fx X [] Mq:=by intro pins s σ H vs us Q I r h;obtain⟨e,h⟩:=h;subst e;cases r;exact assignInOrder_nil ⟨σ,H,I,h⟩
theorem C0{e:Expr}{es:List Expr}{t:TG}{u:FP}(Z:PG X e t)(Y:Fx X es u)
  (hs:(oD (e::es) X.env).map (·.2)=Ic e X.env::(oD es X.env).map (·.2):=by rfl):Fx X (e::es) (Ks t u):=by
 intro pins s σ H vs us Q I r h;obtain⟨v,W,e1,h⟩:=h;subst e1;cases r with
 |cons r rr=>
  rw[hs];refine Q2 (eM (Z pins s σ H _ _ _ I r h) λ_ s1 ⟨σ1,H1,I1,q1⟩=>?_);exact Y pins s1 σ1 H1 _ _ Q I1 rr q1
def Mr(K:cC)(n:Nat)(t:FP):TG:=λv σ H Q=>∃a xs,v= .ref a/\mR K H a xs/\xs.length=n/\t xs σ H Q
theorem Ii{es:List Expr}{k:Nat}{t:FP}{n:Nat}(W:X.calm=b_)(h:Fx X es t)
  (S:(oD es X.env).length=n:=by rfl) (Z:(oD es X.env).findIdx? (·.1)=none:=by rfl):PG X (.Tuple es k pos) (Mr X.K n t):=by
 intro pins s σ H v u Q I r hw;obtain⟨a,xs,e1,P,R,hw⟩:=hw;subst e1;cases r;obtain⟨its,Y,T,N⟩:=I.tuple P;refine assign_Tuple_tuple (I.ok.hd W) T (by simp[S, <-R,Y.length]) Z λh' U=>?_;have O:Inv X pins σ H {s with heap:=h'}:=I.kept (t':=s.toks) λb o e=>U b o (Ob (NV e)) e;exact h pins _ σ H xs _ Q O (by simpa using Y) hw
def Ms(to ti:TE)(t:FQ):TG:=λv σ H Q=>to σ H λo H1=>ti σ H1 λi H2=>t o i v H2 λH3=>Q σ H3
theorem Ij{o i:Expr}{Y Z:TE}{t:FQ}(U:PE X o Y)(T:PE X i Z)(hs:Kr X t)
  (W:∀v,Ic (.Subscript o i pos) X.env v=(do
   let ov<-wh [v] (hD o X.env);let iv<-wh [v,ov] (hD i X.env)
   xi pos
   wh [v,ov,iv] (S9 ov iv v)
   release [v,ov,iv] []):=by intro _;rfl):PG X (.Subscript o i pos) (Ms Y Z t):=by
 intro pins s σ H v u Q I r h;rw[W];refine NN (O5 (eM (U pins s σ H _ I h) λov s1 ⟨x,H1,I1,r1,q1⟩=>?_));refine NN (O5 (eM (T pins s1 σ H1 _ I1 q1) λiv s2 ⟨y,H2,I2,r2,q2⟩=>?_));refine NN (OM (NN (O5 (eM (hs pins s2 σ H2 x y v ov iv u _ I2 r1 r2 r q2) λ_ s3 ⟨H3,I3,q3⟩=>?_))));exact wpAny_release ⟨σ,H3,I3,q3⟩
def Ik(te:TE)(g:TG):TS:=λD σ H=>te σ H λx H1=>g x σ H1 D.nx
theorem Il{Z e:Expr}{te:TE}{g:TG}(W:PE X e te)(T:PG X Z g)(hs:D' [Z] e pos.line X.env=aC false:=by rfl)(U:EA [Z] e X.env=aC none:=by rfl)
  (Y:(oD [Z] X.env).map (·.2)=[Ic Z X.env]:=by rfl):PS X (.Assign [Z] e pos) (Ik te g):=by
 intro pins s σ H D I h;refine wpAny_Assign_stores (eM (W pins s σ H _ I h) λv s1 ⟨x,H1,I1,r1,q1⟩=>?_) hs U;rw[Y];exact eM (T pins s1 σ H1 x v _ I1 r1 q1) λ_ s2 q=>q
theorem Im{i:Nat}{x:Str}{e:Expr}{te:TE}{Z:Pos}(S:X.N.Nodup)(T:X.N[i]? =ar x)(W:Loc X.env.scope x)(U:PE X e te)(hs:nC e (ar (.Name x Z)) pos.line X.env=aC false:=by rfl)(R:X.fn x=b_\/X.env.scope.names.lookup x=ar .local:=by first|exact .inl rfl|exact .inr rfl|assumption):
  PS X (.Assign [.Name x Z] e pos) (Ik te (CZ i)):=by
 intro pins s σ H D I h;refine wpAny_Assign_Name (eM (U pins s σ H _ I h) λv s1 ⟨y,H1,I1,r1,q1⟩=>?_) hs;exact oa I1 S T W r1 (λs2 Y=>⟨_,H1,Y,q1⟩) R
def Mt(i j:Nat)(ta:TA):TS:=λD σ H=>ta σ H λvs H1=>∃v w,vs=[v,w]/\D.nx ((σ.set i (ar v)).set j (ar w)) H1
theorem Io{i j:Nat}{x y:Str}{a b:Expr}{O:TA}{P Q R:Pos}{kt k2 pt2}(F:X.calm=b_)(G:X.N.Nodup)(z:X.N[i]? =ar x)(r:X.N[j]? =ar y)(T:i≠j)
  (K:X.env.scope.names.lookup x=ar .local) (L:X.env.scope.names.lookup y=ar .local) (u:PA X [a,b] O)
  (C:EA [.Tuple [.Name x P,.Name y Q] kt R] (.Tuple [a,b] k2 pt2) X.env=aC (ar [x,y]))
  (hs:D' [.Tuple [.Name x P,.Name y Q] kt R] (.Tuple [a,b] k2 pt2) pos.line X.env=aC false:=by rfl):
  PS X (.Assign [.Tuple [.Name x P,.Name y Q] kt R] (.Tuple [a,b] k2 pt2) pos) (Mt i j O):=by
 intro pins s σ H D I h;rw[exec_Assign_arm];refine NN (OM ?_);rw[hs];refine NN (NT ?_);rw[if_neg (by decide)];refine NN (Tuple_ (eM (u _ pins s σ H _ I h) λus s1 ⟨vs,H1,I1,r1,W⟩=>?_));obtain⟨v,w,e1,W⟩:=W;subst e1;obtain⟨Y,Z,rfl,B,S⟩:∃Y Z,us=[Y,Z]/\RelV v Y/\RelV w Z:=by
  cases r1 with
  | cons p q=>
   cases q with
   |cons p' q'=>
    cases q';exact⟨_,_,rfl,p,p'⟩
 refine OQ ?_ (by show 2<=sizeLine;decide);have E:Inv X pins σ H1 {s1 with heap:=s1.heap.push {cls:=.type "tuple",data:=.seq [Y,Z].toArray}}:=I1.kept (t':=s1.toks) λb o e=>NO _ e;rw[C];refine NN (NT ?_);show ed (er X.prog X.w) X.A (do rule "assign.swapped-stores";let items<-unpackItems (.ref s1.heap.objs.size) 2 none;RE [λv=>Ss X.env y v,λv=>Ss X.env x v] items.reverse;aC Flow.next) _ _ _;refine NN (QB (NN (unpackItems_tuple (items:= #[Y,Z]) (I.ok.hd F) (R6 s1.heap _) λh' U=>?_)));have n:=E.kept (h':=h') (t':=s1.toks) λb o e=>U b o (Ob (NV e)) e;show ed _ _ (RE [λv=>Ss X.env y v,λv=>Ss X.env x v] [Z,Y]>>=λ_=>aC Flow.next) _ _ _;refine NN (Q2 (wpAny_bindName (oa n G r (.inl L) S (λs2 t=>?_) (.inr L))));refine Q2 (wpAny_bindName (oa t G z (.inl K) B (λs3 J=>assignInOrder_nil (NT ?_)) (.inr K)));rw[List.set_comm _ _ (lx T)]at J;exact⟨_,H1,J,W⟩
def Ip(c:TT)(tb:TS):TS:=λD σ H=>∃W:Nat->St->Hp->Prop,(∃m,W m σ H)/\∀m σ H,W m σ H->
 c σ H λb H1=>if b=b_ then ∃N:St->Hp->Prop,(∀ σ' H',N σ' H'->∃m',m'<m/\W m' σ' H')/\tb {D with nx:=N,ct:=N,bk:=D.nx} σ H1 else D.nx σ H1
theorem C1{c:Expr}{body:List n_}{O:TT}{tb:TS}(L:P_ (er X.prog X.w) X.A X.env X.xe)(J:PT X c O)(G:tK X body tb):PS X (.While c body [] pos) (Ip O tb):=by
 intro pins s σ H D I h;obtain⟨W,⟨m0,F⟩,turn⟩:=h;refine wpAny_While (codeAny_whileLoop (λn s'=>∃ σ' H',Inv X pins σ' H' s'/\W n σ' H') ?_ m0 ⟨σ,H,I,F⟩);rintro n s1 ⟨σ1,H1,I1,w1⟩;refine PF L (eM (J pins s1 σ1 H1 _ I1 (turn n σ1 H1 w1)) λb s2 ⟨H2,I2,U⟩=>?_);cases b with
 | true=>
  obtain⟨N,K,U⟩:=U;rw[if_pos rfl];refine PF L (eM (G pins s2 σ1 H2 _ I2 U) λf s3 T=>?_);cases f with
  |next=>
   obtain⟨Z,Y,R,P⟩:=T;obtain⟨Q,hm,S⟩:=K Z Y P;exact⟨Q,hm,Z,Y,R,S⟩
  |cont=>
   obtain⟨Z,Y,R,P⟩:=T;obtain⟨Q,hm,S⟩:=K Z Y P;exact⟨Q,hm,Z,Y,R,S⟩
  |brk=>exact T
  |ret v=>exact T
 |false=>
  rw[if_neg Pd];exact QR ⟨σ1,H2,I2,U⟩
end
structure It where
 go:Nat->Hp->Prop
 yld:Nat->Hp->V->Hp->Prop
 stop:Nat->Hp->Prop
def lM(X:Cx)(pins:List (b'×Obj))(H:Hp)(b:b'):Prop:=
 H b=none/\b≠X.env.locals/\b∉X.fs/\(b∈X.ex\/X.s₀.heap.objs.size<=b)/\(∀x c,X.env.cells.lookup x=ar c->c≠b)/\∀p∈X.pn++pins,p.1≠b
theorem Inv.fpOk{X:Cx}{Z:List (b'×Obj)}{S:St}{H W:Hp}{s:cn}{b:b'}(I:Inv X Z S H s)(Y:s.heap.objs.size<=b)(U:W b=none):lM X Z W b:=by
 refine⟨U,PL (Oe I.lt Y),I.nofs Y,.inr (NZ I.sz Y),λx c e z=>?_,λp T z=>?_⟩
 ·obtain⟨v,q⟩:=I.cell x c e;exact absurd (Oe q.lt (by rw[z];exact Y)) (Pj _)
 ·exact absurd (Oe (NV (I.pin p T).1) (by rw[z];exact Y)) (Pj _)
structure Turn(P:dV)(w:d_)(K:cC)(tg:Expr)(J:It)(fp:List b')(it:b')(tn:Nat->eg->Prop):Prop where
 mem:it∈fp
 obj:∀i h,tn i h->∀b∈fp,∃o,h.get? b=ar o/\∀v,o.data≠ .cell v
 keep:∀i h h',tn i h->(∀b∈fp,∀o,h.get? b=ar o->h'.get? b=ar o)->tn i h'
 item:∀(X:Cx),X.prog=P->X.w=w->X.K=K->X.calm=b_->∀(i:Nat) (pins:List (b'×Obj)) (s:cn) (σ:St) (H:Hp) (E:a_->cn->Prop),Inv X pins σ H s->(∀b∈fp,lM X pins H b)->tn i s.heap->J.go i H->
  ed (er P w) X.A (RM (.ref it)) (λr s1=>∃u,r=ar u/\
   ed (er P w) X.A (x_ tg (.ref it) u) (λ_ s2=>∃x H',Inv X pins σ H' s2/\RelV x u/\J.yld i H x H'/\tn (i+1) s2.heap/\∀b∈fp,H' b=none) E s1) E s
 done:∀(X:Cx),X.prog=P->X.w=w->X.K=K->X.calm=b_->∀(i:Nat) (pins:List (b'×Obj)) (s:cn) (σ:St) (H:Hp) (E:a_->cn->Prop),Inv X pins σ H s->(∀b∈fp,lM X pins H b)->tn i s.heap->J.stop i H->
  ed (er P w) X.A (RM (.ref it)) (λr s1=>r=none/\Inv X pins σ H s1) E s
 self:∀(A:f_) (i:Nat) (s:cn) (Q:a_->cn->Prop) (E:a_->cn->Prop),tn i s.heap->Q (.ref it) s->ed (er P w) A (RN (.ref it)) Q E s
abbrev TI:=St->Hp->(It->Hp->Prop)->Prop
def Nb(X:Cx)(pins:List (b'×Obj))(σ:St)(tg:Expr)(R:It->Hp->Prop)(itv:a_)(s2:cn):Prop:=
 ∃(it:b') (fp:List b') (tn:Nat->eg->Prop) (J:It) (H':Hp),itv= .ref it/\Inv X pins σ H' s2/\Turn X.prog X.w X.K tg J fp it tn/\tn 0 s2.heap/\(∀b∈fp,lM X pins H' b)/\R J H'
def PI(X:Cx)(tg iter:Expr)(wi:TI):Prop:=
 ∀(pins:List (b'×Obj)) (s:cn) (σ:St) (H:Hp) (R:It->Hp->Prop),Inv X pins σ H s->wi σ H R->
  ed (er X.prog X.w) X.A (hD iter X.env) (λv s1=>ed (er X.prog X.w) X.A (RN v) (Nb X pins σ tg R) X.xe s1) X.xe s
theorem C2{M:SH}{A:f_}{E:a_->cn->Prop}{s:cn}{Y:Expr}{it:b'}{u:a_}{o:Obj}{n:String}{vs:Array a_}{Q:Unit->cn->Prop}(U:s.heap.get? it=ar o)(X:o.cls= .type n)(T:o.data= .fields vs)
    (W:["enumerate","zip","dict_itemiterator","dict_reverseitemiterator","odict_iterator","itertools.zip_longest","itertools.pairwise"].contains n=c_) (Z:Q () s):ed M A (x_ Y (.ref it) u) Q E s:=by
  unfold x_;cases Y <;>first
    |exact NT Z
    |(cases u<;>first
        |exact NT Z
        | (refine NN (wpAny_load U ?_)
           rw[X,T];show ed M A (if (["enumerate","zip","dict_itemiterator","dict_reverseitemiterator","odict_iterator","itertools.zip_longest","itertools.pairwise"].contains n && vs[0]? ==ar (wk _))=b_ then _ else _) Q E s;rw[if_neg (by intro h;rw[W,P8]at h;cases h)];exact NT Z))
def LO(K:cC)(a:b'):It:=
 ⟨λi H=>∃xs x,lQ K H a xs/\xs[i]? =ar x,λi H x H'=>H'=H/\∀xs,lQ K H a xs->xs[i]? =ar x,λi H=>∃xs,lQ K H a xs/\xs.length<=i⟩
def Mu(K:cC)(a:b'):It:=
 ⟨λi H=>∃xs x,mR K H a xs/\xs[i]? =ar x,λi H x H'=>H'=H/\∀xs,mR K H a xs->xs[i]? =ar x,λi H=>∃xs,mR K H a xs/\xs.length<=i⟩
def Kt(lo:Int)(n:Nat):It:=⟨λi _=>i<n,λi H x H'=>H'=H/\x= .int (lo+i),λi _=>n<=i⟩
theorem BF{P:dV}{w:d_}{K:cC}{y:Expr}(a it:b'):Turn P w K y (LO K a) [it] it (λi h=>h.IsListIter it a i) where
 mem:=by simp
 obj:=λi h st b Z=>by
  have e:b=it:=by simpa using Z
  subst e;obtain⟨o,e,c,d⟩:=st;exact⟨o,e,λv z=>by rw[d]at z;cases z⟩
 keep:=λi h h' st k=>st.at λo e=>k it (by simp) o e
 item:=by intro X Q hw L J i pins s σ H E I hf st O;subst Q hw L;obtain⟨xs,x,U,N⟩:=O;obtain⟨its,S,p,r⟩:=I.list U;obtain⟨u,G,F⟩:=S.get N;obtain⟨f0,f1,f2,R,f4,T⟩:=hf it (by simp);refine wpAny_pyNext_list_item st p.isList (x:=u) (by simpa using G) λh' Y C=>?_;have B:Inv X pins σ H {s with heap:=h'}:=I.turned (t':=s.toks) (λb o Z e=>(C.2 b Z).trans e) f0 f1 R f4 T;obtain⟨o,e,c,d⟩:=id Y;exact⟨u,rfl,C2 (s:={s with heap:=h'}) e c d (by decide) ⟨x,H,B,F,⟨rfl,λys A=>by rw[I.list_inj A U];exact N⟩,Y,λb Z=>(hf b Z).1⟩⟩
 done:=by intro X Q hw L J i pins s σ H E I hf st O;subst Q hw L;obtain⟨xs,U,N⟩:=O;obtain⟨its,S,p,r⟩:=I.list U;obtain⟨f0,f1,f2,R,f4,T⟩:=hf it (by simp);have q:=S.length;exact wpAny_pyNext_list_end (I.ok.hd J) st p.isList (by simp;omega) λh' t=>⟨rfl,I.turned (t':=s.toks) (λb o Z e=>t b o Z e) f0 f1 R f4 T⟩
 self:=λ_ _ _ _ _ st h=>wpAny_pyIter_listiter st h
theorem yR{P:dV}{w:d_}{K:cC}{y:Expr}(a it:b'):Turn P w K y (Mu K a) [it] it (λi h=>h.IsTupleIter it a i) where
 mem:=by simp
 obj:=λi h st b Z=>by
  have e:b=it:=by simpa using Z
  subst e;obtain⟨o,e,c,d⟩:=st;exact⟨o,e,λv z=>by rw[d]at z;cases z⟩
 keep:=λi h h' st k=>st.at λo e=>k it (by simp) o e
 item:=by intro X Q hw L J i pins s σ H E I hf st O;subst Q hw L;obtain⟨xs,x,U,N⟩:=O;obtain⟨its,S,p,r⟩:=I.tuple U;obtain⟨u,G,F⟩:=S.get N;obtain⟨f0,f1,f2,R,f4,T⟩:=hf it (by simp);refine wpAny_pyNext_tuple_item st (show s.heap.IsTuple a its.toArray from p) (x:=u) (by simpa using G) λh' Y C=>?_;have B:Inv X pins σ H {s with heap:=h'}:=I.turned (t':=s.toks) (λb o Z e=>(C.2 b Z).trans e) f0 f1 R f4 T;obtain⟨o,e,c,d⟩:=id Y;exact⟨u,rfl,C2 (s:={s with heap:=h'}) e c d (by decide) ⟨x,H,B,F,⟨rfl,λys A=>by rw[I.tuple_inj A U];exact N⟩,Y,λb Z=>(hf b Z).1⟩⟩
 done:=by intro X Q hw L J i pins s σ H E I hf st O;subst Q hw L;obtain⟨xs,U,N⟩:=O;obtain⟨its,S,p,r⟩:=I.tuple U;obtain⟨f0,f1,f2,R,f4,T⟩:=hf it (by simp);have q:=S.length;exact wpAny_pyNext_tuple_end (I.ok.hd J) st (show s.heap.IsTuple a its.toArray from p) (by simp;omega) λh' t=>⟨rfl,I.turned (t':=s.toks) (λb o Z e=>t b o Z e) f0 f1 R f4 T⟩
 self:=λ_ _ _ _ _ st h=>wpAny_pyIter_tupleiter st h
theorem yS{P:dV}{w:d_}{K:cC}{C:Expr}(it:b')(U:Int)(n:Nat):Turn P w K C (Kt U n) [it] it (λi h=>IsRangeIter h it (U+(i:Nat)*1) ((n:Int) - (i:Nat)) 1) where
 mem:=by simp
 obj:=λi h st b Z=>by
  have e:b=it:=by simpa using Z
  subst e;exact⟨_,st,λv z=>by have G:Data.fields _=Data.cell v:=z;cases G⟩
 keep:=λi h h' st k=>k it (by simp) _ st
 item:=by intro X Q hw N T i pins s σ H E I hf st O;subst Q hw N;obtain⟨f0,f1,f2,R,f4,S⟩:=hf it (by simp);have W:=Walks.range (prog:=X.prog) (w:=X.w) (I.ok.hd T) it U 1 n;refine W.item i s _ _ O st λv h' L B Y J=>?_;obtain⟨t,rfl⟩:=B;have F:Inv X pins σ H {s with heap:=h',toks:=L}:=I.turned (λb o Z e=>J b o (by simpa using Z) e) f0 f1 R f4 S;refine⟨_,rfl,C2 (s:={s with heap:=h',toks:=L}) (n:="range_iterator") Y rfl rfl (by decide) ⟨.int (U+i),H,F,⟨t,?_⟩,⟨rfl,rfl⟩,Y,λb Z=>(hf b Z).1⟩⟩;rw[Int.mul_one]
 done:=by intro X Q hw N T i pins s σ H E I hf st O;subst Q hw N;obtain⟨f0,f1,f2,R,f4,S⟩:=hf it (by simp);exact wpAny_pyNext_range_end (I.ok.hd T) st (by have:n<=i:=O;omega) λh' A=>⟨rfl,I.turned (t':=s.toks) (λb o Z e=>A b o Z e) f0 f1 R f4 S⟩
 self:=λ_ _ _ _ _ st h=>wpAny_pyIter_rangeiter st h
section
variable {X:Cx}{tg:Expr}
def Ku(K:cC)(tl:TE):TI:=λσ H R=>tl σ H λx H1=>∃a,x= .ref a/\(∃xs,lQ K H1 a xs)/\R (LO K a) H1
def Mv(K:cC)(tl:TE):TI:=λσ H R=>tl σ H λx H1=>∃a,x= .ref a/\(∃xs,mR K H1 a xs)/\R (Mu K a) H1
theorem og{l:Expr}{Z:TE}(Y:PE X l Z):PI X tg l (Ku X.K Z):=by
 intro pins s σ H R I h;refine eM (Y pins s σ H _ I h) λv s1 ⟨x,H1,I1,r1,q1⟩=>?_;obtain⟨a,e,⟨xs,U⟩,q⟩:=q1;subst e;cases r1;obtain⟨its,T,p,S⟩:=I1.list U;refine QC p.isList ?_;refine⟨s1.heap.objs.size,[s1.heap.objs.size],_,_,H1,rfl,I1.kept (t':=s1.toks) λb o e=>NO _ e,BF a _,⟨_,N4 _ rfl,rfl,rfl⟩,λb W=>?_,q⟩;have e:b=s1.heap.objs.size:=by simpa using W
 subst e;exact I1.fpOk (NQ _) (I1.hok.fresh (NQ _))
theorem Iq{l:Expr}{Z:TE}(Y:PE X l Z):PI X tg l (Mv X.K Z):=by
 intro pins s σ H R I h;refine eM (Y pins s σ H _ I h) λv s1 ⟨x,H1,I1,r1,q1⟩=>?_;obtain⟨a,e,⟨xs,U⟩,q⟩:=q1;subst e;cases r1;obtain⟨its,T,p,S⟩:=I1.tuple U;refine Pe (show s1.heap.IsTuple a its.toArray from p) ?_;refine⟨s1.heap.objs.size,[s1.heap.objs.size],_,_,H1,rfl,I1.kept (t':=s1.toks) λb o e=>NO _ e,yR a _,⟨_,N4 _ rfl,rfl,rfl⟩,λb W=>?_,q⟩;have e:b=s1.heap.objs.size:=by simpa using W
 subst e;exact I1.fpOk (NQ _) (I1.hok.fresh (NQ _))
theorem w8{W:List (b'×Obj)}{S:St}{H:Hp}{s:cn}{R:It->Hp->Prop}{E:a_->cn->Prop}{Z Y:Int}{t u v:Tok}{U:Nat}(I:Inv X W S H s)(Q: -(2 ^ 62)<=Z)(P:Z<2 ^ 62)(O: -(2 ^ 62)<=Y)(L:Y<2 ^ 62)
  (q:R (Kt Z (Y - Z).toNat) H):ed (er X.prog X.w) X.A (RN (.ref s.heap.objs.size)) (Nb X W S tg R) E {s with heap:=s.heap.push {cls:=.type "range",data:=.fields #[.int Z t,.int Y u,.int 1 v]},toks:=U}:=by
 refine wpAny_pyIter_range (IsRange.new ..) (small_one Q P O L) ?_;have T:Inv X W S H {s with heap:=s.heap.push {cls:=.type "range",data:=.fields #[.int Z t,.int Y u,.int 1 v]},toks:=U}:=I.kept λb o e=>NO _ e;refine⟨(s.heap.push {cls:=.type "range",data:=.fields #[.int Z t,.int Y u,.int 1 v]}).objs.size,[(s.heap.push {cls:=.type "range",data:=.fields #[.int Z t,.int Y u,.int 1 v]}).objs.size],_,_,H,rfl,
  T.kept (t':=U) λb o e=>NO _ e,yS _ Z (Y - Z).toNat,?_,λb N=>?_,q⟩
 ·have e1:Z+((0:Nat):Int)*1=Z:=by simp
  have e2:(((Y - Z).toNat:Nat):Int) - ((0:Nat):Int)=Builtin.Range.rangeSize Z Y 1:=by rw[rangeSize_one];split<;>omega
  show IsRangeIter _ _ (Z+((0:Nat):Int)*1) ((((Y - Z).toNat:Nat):Int) - ((0:Nat):Int)) 1;rw[e1,e2];exact N4 _ rfl
 ·have e:b=(s.heap.push {cls:=.type "range",data:=.fields #[.int Z t,.int Y u,.int 1 v]}).objs.size:=by simpa using N
  subst e;exact T.fpOk (NQ _) (T.hok.fresh (NQ _))
def Kv(ta:TA):TI:=λσ H R=>ta σ H λvs H1=>∃j:Int,vs=[.int j]/\ -(2 ^ 62)<=j/\j<2 ^ 62/\R (Kt 0 j.toNat) H1
def Kw(ta:TA):TI:=λσ H R=>ta σ H λvs H1=>∃i j:Int,vs=[.int i,.int j]/\(-(2 ^ 62)<=i/\i<2 ^ 62/\ -(2 ^ 62)<=j/\j<2 ^ 62)/\R (Kt i (j - i).toNat) H1
theorem BG{a:Expr}{Y:TA}{p pos:Pos}(S:Gl X "range")(T:X.mg "range"=none)(W:PA X [a] Y)(hs:dt [a] X.env=[(c_,hD a X.env)]:=by rfl):PI X tg (.Call (.Name "range" p) [a] [] pos) (Kv Y):=by
 intro pins s σ H R I h;refine Te (nJ I S T boot_range (O6 (eM (W pos pins s σ H _ I h) λus s1 ⟨vs,H1,I1,r1,Z⟩=>?_) hs rfl));obtain⟨j,e,Z,U,q⟩:=Z;subst e;cases r1 with
 |cons r rr=>
  cases rr;obtain⟨t,rfl⟩:=r;exact call_range_1 (w8 I1 (by omega) (by omega) Z U (by simpa using q))
theorem BH{a b:Expr}{W:TA}{p pos:Pos}(O:Gl X "range")(P:X.mg "range"=none)(T:PA X [a,b] W)(hs:dt [a,b] X.env=[(c_,hD a X.env),(c_,hD b X.env)]:=by rfl)(Z:dt [b] X.env=[(c_,hD b X.env)]:=by rfl):
  PI X tg (.Call (.Name "range" p) [a,b] [] pos) (Kw W):=by
 intro pins s σ H R I h;refine Te (nJ I O P boot_range (O6 (eM (T pos pins s σ H _ I h) λus s1 ⟨vs,H1,I1,r1,Y⟩=>?_) (by rw[hs,Z]) (by rw[Z];rfl)));obtain⟨i,j,e,⟨Y,S,Q,U⟩,q⟩:=Y;subst e;cases r1 with
 | cons r rr=>
  cases rr with
  |cons r' rr=>
   cases rr;obtain⟨t,rfl⟩:=r;obtain⟨t',rfl⟩:=r';exact call_range_2 (w8 I1 Y S Q U q)
def Mw(wi:TI)(g:TG)(tb:TS):TS:=λD σ H=>wi σ H λJ H1=>∃W:Nat->Nat->St->Hp->Prop,(∃m,W 0 m σ H1)/\∀i m σ H,W i m σ H->
 (J.stop i H/\D.nx σ H)\/(J.go i H/\∃N:St->Hp->Prop,(∀ σ' H',N σ' H'->∃m',m'<m/\W (i+1) m' σ' H')/\∀x H',J.yld i H x H'->g x σ H' λσ2 H2=>tb {D with nx:=N,ct:=N,bk:=D.nx} σ2 H2)
def pD(fp:List b')(h:eg):List (b'×Obj):=fp.filterMap λb=>(h.get? b).map λo=>(b,o)
theorem gy{Z:List b'}{h:eg}{b:b'}{o:Obj}(Y:b∈Z)(e:h.get? b=ar o):(b,o)∈pD Z h:=Pr.mpr ⟨b,Y,by rw[e];rfl⟩
theorem BI{Z:List b'}{h:eg}{p:b'×Obj}(U:p∈pD Z h):p.1∈Z/\h.get? p.1=ar p.2:=by
 obtain⟨b,Y,e⟩:=Pr.mp U;cases q:h.get? b with
 |none=>rw[q]at e;cases e
 |some o=>
  rw[q]at e;have W:(b,o)=p:=Oj e;subst W;exact⟨Y,q⟩
theorem Inv.pinned{Z:List (b'×Obj)}{W:St}{H:Hp}{s:cn}{Y:List b'}(I:Inv X Z W H s)(Q:∀b∈Y,lM X Z H b)(S:∀b∈Y,∃o,s.heap.get? b=ar o/\∀v,o.data≠ .cell v):Inv X (Z++pD Y s.heap) W H s:=
 I.pins_of λp R=>(OB.mp R).elim (λz=>I.pin p (N9 _ z)) λz=>by obtain⟨U,e⟩:=BI z;obtain⟨f0,f1,f2,_⟩:=Q p.1 U;obtain⟨o,T,d⟩:=S p.1 U;rw[e]at T;cases T;exact⟨e,f0,f1,f2,d⟩
theorem Inv.unpinned{Z W:List (b'×Obj)}{Y:St}{H:Hp}{s:cn}(I:Inv X (Z++W) Y H s):Inv X Z Y H s:=I.pins_of λp U=>I.pin p (N9 _ (PD _ U))
theorem Ir{R:Expr}{body:List n_}{z:TI}{g:TG}{tb:TS}{pos:Pos}(K:P_ (er X.prog X.w) X.A X.env X.xe)(C:X.calm=b_)(k:PI X tg R z)(c:PG X tg g)(S:tK X body tb)
  (hs:∀x,gi R X.env x=aC x:=by intro _;rfl):PS X (.For tg R body [] pos) (Mw z g tb):=by
 intro pins s σ H D I h;refine wpAny_For (eM (k pins s σ H _ I h) λv s1 a=>eM a λa4 s2 h2=>?_) hs;obtain⟨it,L,B,J,y,e,t,T,F,f2,W,⟨m0,l⟩,turn⟩:=h2;subst e;have Q:∀{H':Hp},(∀b∈L,H' b=none)->∀b∈L,lM X pins H' b:=λp b S=>⟨p b S,(f2 b S).2⟩;refine codeAny_forLoop_any (λn s'=>∃i σ' H',Inv X pins σ' H' s'/\B i s'.heap/\(∀b∈L,H' b=none)/\W i n σ' H') ?_ m0 ⟨0,σ,y,t,F,λb S=>(f2 b S).1,l⟩;rintro n s3 ⟨i,σ3,H3,I3,st3,fr3,w3⟩;rcases turn i n σ3 H3 w3 with⟨stop,qn⟩|⟨go,N,hN,step⟩
 ·refine PF K (eM (T.done X rfl rfl rfl C i pins s3 σ3 H3 X.xe I3 (Q fr3) st3 stop) λr s4 ⟨hr,I4⟩=>?_);subst hr;exact QR ⟨σ3,H3,I4,qn⟩
 ·refine PF K (eM (T.item X rfl rfl rfl C i pins s3 σ3 H3 X.xe I3 (Q fr3) st3 go) λr s4 ⟨u,hr,h4⟩=>?_);subst hr;refine PF K (eM h4 λ_ s5 ⟨x,H5,I5,r5,y5,st5,fr5⟩=>?_);have G:=I5.pinned (Q fr5) (T.obj _ _ st5);refine PF K (eM (c _ s5 σ3 H5 x u _ G r5 (step x H5 y5)) λ_ s6 ⟨σ6,H6,I6,q6⟩=>?_);refine PF K (eM (S _ s6 σ6 H6 _ I6 q6) λf E P=>?_);have RI:∀{Z:St} {Y:Hp},Inv X (pins++pD L s5.heap) Z Y E->N Z Y->∃m,m<n/\∃i σ' H',Inv X pins σ' H' E/\B i E.heap/\(∀b∈L,H' b=none)/\W i m σ' H':=λ{Z Y} U O=>by
   obtain⟨j,hm,w7⟩:=hN Z Y O;refine⟨j,hm,i+1,Z,Y,U.unpinned,T.keep _ _ _ st5 λb S o e=>(U.pin (b,o) (N9 _ (N9 _ (gy S e)))).1,λb S=>?_,w7⟩;obtain⟨o,e,d⟩:=T.obj _ _ st5 b S;exact(U.pin (b,o) (N9 _ (N9 _ (gy S e)))).2.1
  cases f with
  |next=>obtain⟨Z,Y,U,O⟩:=P;exact RI U O
  |cont=>obtain⟨Z,Y,U,O⟩:=P;exact RI U O
  |brk=>obtain⟨Z,Y,U,P⟩:=P;exact⟨Z,Y,U.unpinned,P⟩
  |ret v=>obtain⟨x7,Z,Y,U,q,P⟩:=P;exact⟨x7,Z,Y,U.unpinned,q,P⟩
end
abbrev R2:=V->V->Hp->VK->Prop
def j5(X:Cx)(f:a_->a_->Sem a_)(r:R2):Prop:=
 ∀(pins:List (b'×Obj)) (s:cn) (σ:St) (H:Hp) (x y:V) (v u:a_) (Q:VK),Inv X pins σ H s->RelV x v->RelV y u->r x y H Q->
  ed (er X.prog X.w) X.A (f v u) (EP X pins σ Q) X.xe s
def Mx(X:Cx)(f:a_->Sem a_)(r:V->Hp->VK->Prop):Prop:=
 ∀(pins:List (b'×Obj)) (s:cn) (σ:St) (H:Hp) (x:V) (v:a_) (Q:VK),Inv X pins σ H s->RelV x v->r x H Q->
  ed (er X.prog X.w) X.A (f v) (EP X pins σ Q) X.xe s
def d8(X:Cx)(f:a_)(r:List V->Hp->VK->Prop):Prop:=
 ∀(pins:List (b'×Obj)) (s:cn) (σ:St) (H:Hp) (xs:List V) (us:List a_) (Q:VK),Inv X pins σ H s->bJ xs us->r xs H Q->
  ed (er X.prog X.w) X.A (call f us) (EP X pins σ Q) X.xe s
def My(X:Cx)(r:V->Hp->(Bool->Hp->Prop)->Prop):Prop:=
 ∀(pins:List (b'×Obj)) (s:cn) (σ:St) (H:Hp) (x:V) (v:a_) (Q:Bool->Hp->Prop),Inv X pins σ H s->RelV x v->r x H Q->
  ed (er X.prog X.w) X.A (SL v) (TP X pins σ Q) X.xe s
def Kx(r:R2)(ta tb:TE):TE:=λσ H Q=>ta σ H λx H1=>tb σ H1 λy H2=>r x y H2 Q
def Nu(r:V->Hp->VK->Prop)(ta:TE):TE:=λσ H Q=>ta σ H λx H1=>r x H1 Q
def rI(C:Int->Int->Prop)(g:Int->Int->V):R2:=λx y H Q=>∃i j,x= .int i/\y= .int j/\C i j/\Q (g i j) H
def Fy(g:Int->Int->V):R2:=λx y H Q=>∃i j,x= .int i/\y= .int j/\Q (g i j) H
def rU(g:Int->V):V->Hp->VK->Prop:=λx H Q=>∃i,x= .int i/\Q (g i) H
section
variable {X:Cx}{a b c:Expr}{ta tb tc:TE}{pos:Pos}
theorem Iu(P:PE X a ta)(O:PE X b tb){Z:List (b'×Obj)}{s:cn}{W:St}{H:Hp}{R:V->V->Hp->Prop}(I:Inv X Z W H s)
  (h:ta W H λx S=>tb W S λy Y=>R x y Y) {Q:a_->cn->Prop} {f:a_->a_->Sem a_}
  (N:∀v u s2 x y Y,Inv X Z W Y s2->RelV x v->RelV y u->R x y Y->ed (er X.prog X.w) X.A (f v u) Q X.xe s2):
  ed (er X.prog X.w) X.A (hD a X.env) (λv T=>ed (er X.prog X.w) X.A (hD b X.env) (λu U=>ed (er X.prog X.w) X.A (f v u) Q X.xe U) X.xe T) X.xe s:=by
 refine eM (P Z s W H _ I h) λv s1 ⟨x,S,I1,r1,q1⟩=>?_;refine eM (O Z s1 W S _ I1 q1) λu s2 ⟨y,Y,I2,r2,q2⟩=>?_;exact N v u s2 x y Y I2 r1 r2 q2
theorem Ky{op:Operator}{r:R2}(T:j5 X (q_ op) r)(Y:PE X a ta)(S:PE X b tb):PE X (.BinOp a op b pos) (Kx r ta tb):=by intro pins s σ H Q I h;exact wpAny_BinOp (Iu Y S I h λv u s2 x y Z U W R q=>T pins s2 σ Z x y v u Q U W R q)
theorem Kz{op:UnaryOp}{r:V->Hp->VK->Prop}(Y:Mx X (unaryOp op) r)(Z:PE X a ta):PE X (.UnaryOp op a pos) (Nu r ta):=by intro pins s σ H Q I h;exact UnaryOp_ (eM (Z pins s σ H _ I h) λv s1 ⟨x,H1,I1,r1,q1⟩=>Y pins s1 σ H1 x v Q I1 r1 q1)
theorem LP{f:a_->a_->Sem a_}{C:Int->Int->Prop}{g:Int->Int->Int}
  (Z:∀(i j:Int) (t u:Tok) (s:cn) (Q:a_->cn->Prop) (E:a_->cn->Prop),C i j->Q (.int (g i j) s.toks) {s with toks:=s.toks+1}->ed (er X.prog X.w) X.A (f (.int i t) (.int j u)) Q E s):
  j5 X f (rI C λi j=>.int (g i j)):=by
 intro pins s σ H x y v u Q I W U h;obtain⟨i,j,rfl,rfl,Y,q⟩:=h;obtain⟨t,rfl⟩:=W;obtain⟨t',rfl⟩:=U;exact Z i j t t' s _ _ Y ⟨.int (g i j),H,I.tok _,⟨_,rfl⟩,q⟩
theorem KB{f:a_->a_->Sem a_}{g:Int->Int->Int}
  (Z:∀(i j:Int) (t u:Tok) (s:cn) (Q:a_->cn->Prop) (E:a_->cn->Prop),Q (.int (g i j) s.toks) {s with toks:=s.toks+1}->ed (er X.prog X.w) X.A (f (.int i t) (.int j u)) Q E s):
  j5 X f (Fy λi j=>.int (g i j)):=by
 intro pins s σ H x y v u Q I Y W h;obtain⟨i,j,rfl,rfl,q⟩:=h;obtain⟨t,rfl⟩:=Y;obtain⟨t',rfl⟩:=W;exact Z i j t t' s _ _ ⟨.int (g i j),H,I.tok _,⟨_,rfl⟩,q⟩
theorem FT{f:a_->a_->Sem a_}{g:Int->Int->Bool}
  (Z:∀(i j:Int) (t u:Tok) (s:cn) (Q:a_->cn->Prop) (E:a_->cn->Prop),Q (.bool (g i j)) s->ed (er X.prog X.w) X.A (f (.int i t) (.int j u)) Q E s):
  j5 X f (Fy λi j=>.bl (g i j)):=by
 intro pins s σ H x y v u Q I Y W h;obtain⟨i,j,rfl,rfl,q⟩:=h;obtain⟨t,rfl⟩:=Y;obtain⟨t',rfl⟩:=W;exact Z i j t t' s _ _ ⟨.bl (g i j),H,I,rfl,q⟩
def BJ(i j:Int):Prop:=0<j/\j<1073741824
def FU(i j:Int):Prop:=0<=j/\j<=1000000/\i.natAbs<2 ^ 64
def yT(i j:Int):Prop:=(-(2 ^ 64)<i/\i<2 ^ 64)\/(-(2 ^ 64)<j/\j<2 ^ 64)
theorem yT.ok{i j:Int}(h:yT i j):IntMulOk i j:=by
 rcases h with⟨h1,h2⟩|⟨h1,h2⟩
 ·exact .of_left (intBits_le_64 h1 h2)
 ·exact .of_right (intBits_le_64 h1 h2)
theorem Iv:j5 X (q_ .Add) (Fy λi j=>.int (i+j)):=KB λ_ _ _ _ _ _ _ q=>add_int q
theorem Iw:j5 X (q_ .Sub) (Fy λi j=>.int (i - j)):=KB λ_ _ _ _ _ _ _ q=>sub_int q
theorem Iy:j5 X (q_ .Mult) (rI yT λi j=>.int (i*j)):=LP λ_ _ _ _ _ _ _ Z q=>mul_int q Z.ok
theorem FV:j5 X (q_ .FloorDiv) (rI BJ λi j=>.int (i / j)):=LP λi j _ _ _ _ _ Z q=>by have Y:(0:Int)<j:=Z.1;have W:j<1073741824:=Z.2;exact floordiv_int (by omega) (by rw[Int.fdiv_eq_ediv_of_nonneg i (by omega)];exact q) (.inl (PyProof.noPylong_small (by omega)))
theorem Iz:j5 X (q_ .Mod) (rI (λ_ j=>0<j) λi j=>.int (i % j)):=LP λi j _ _ _ _ _ Z q=>by have Y:(0:Int)<j:=Z;exact mod_int' (by omega) (by rw[Int.fmod_eq_emod_of_nonneg i (by omega)];exact q)
theorem IA:j5 X (q_ .Pow) (rI FU λi j=>.int (i ^ j.toNat)):=LP λ_ _ _ _ _ _ _ Z q=>pow_int_small Z.1 Z.2.1 Z.2.2 q
theorem Nv{f:a_->Sem a_}{g:Int->Int}
  (Z:∀(i:Int) (t:Tok) (s:cn) (Q:a_->cn->Prop) (E:a_->cn->Prop),Q (.int (g i) s.toks) {s with toks:=s.toks+1}->ed (er X.prog X.w) X.A (f (.int i t)) Q E s):
  Mx X f (rU λi=>.int (g i)):=by
 intro pins s σ H x v Q I Y h;obtain⟨i,rfl,q⟩:=h;obtain⟨t,rfl⟩:=Y;exact Z i t s _ _ ⟨.int (g i),H,I.tok _,⟨_,rfl⟩,q⟩
theorem IB:Mx X (unaryOp .USub) (rU λi=>.int (-i)):=Nv λ_ _ _ _ _ q=>neg_int q
theorem C3{Z:List (b'×Obj)}{W:St}{H:Hp}{s:cn}{Q:VK}{k Y:Bool}(I:Inv X Z W H s)(q:Q (.bl k) H)(e:k=Y):EP X Z W Q (.bool Y) s:=by subst e;exact⟨.bl k,H,I,rfl,q⟩
theorem C4:j5 X (hh .Lt) (Fy λi j=>.bl (decide (i<j))):=FT λ_ _ _ _ _ _ _ q=>lt_int q
theorem Ay:j5 X (hh .LtE) (Fy λi j=>.bl (decide (i<=j))):=FT λ_ _ _ _ _ _ _ q=>le_int q
theorem KC:j5 X (hh .Gt) (Fy λi j=>.bl (decide (j<i))):=FT λ_ _ _ _ _ _ _ q=>gt_int q
theorem KD:j5 X (hh .GtE) (Fy λi j=>.bl (decide (j<=i))):=FT λ_ _ _ _ _ _ _ q=>ge_int q
theorem C5:j5 X (hh .Is) (λx y H Q=>y= .non/\Q (.bl (decide (x= .non))) H):=by
 intro pins s σ H x y v u Q I Z Y h;obtain⟨rfl,q⟩:=h;cases Y;refine is_none_gen (C3 I q ?_);cases x<;>first
  |(cases Z;rfl)
  |(obtain⟨t,rfl⟩:=Z;rfl)
theorem FW:j5 X (hh .IsNot) (λx y H Q=>y= .non/\Q (.bl (!decide (x= .non))) H):=by
 intro pins s σ H x y v u Q I Z Y h;obtain⟨rfl,q⟩:=h;cases Y;refine isnot_none_gen (C3 I q ?_);cases x<;>first
  |(cases Z;rfl)
  |(obtain⟨t,rfl⟩:=Z;rfl)
theorem j5.or{f:a_->a_->Sem a_}{r W:R2}(h:j5 X f r)(h':j5 X f W):j5 X f (λx y H Q=>r x y H Q\/W x y H Q):=by
 intro pins s σ H x y v u Q I Z Y q;rcases q with q|q
 ·exact h pins s σ H x y v u Q I Z Y q
 ·exact h' pins s σ H x y v u Q I Z Y q
theorem Mz(b:Expr){op:SU}(h:op≠ .In:=by decide)(Z:op≠ .NotIn:=by decide):kT op b=false:=by
 have e1:(op==CmpOp.In)=false:=by cases op<;>first|rfl|exact absurd rfl h
 have e2:(op==CmpOp.NotIn)=false:=by cases op<;>first|rfl|exact absurd rfl Z
 cases b<;>simp[kT,e1,e2]
theorem FX{op:SU}{r:R2}(T:j5 X (hh op) r)(Y:PE X a ta)(S:PE X b tb)(R:kT op b=c_):PE X (.Compare a [op] [b] pos) (Kx r ta tb):=by intro pins s σ H Q I h;exact wpAny_Compare1 (Iu Y S I h λv u s2 x y Z U W P q=>T pins s2 σ Z x y v u Q U W P q) R
def Ht(t:TE):TT:=λσ H Q=>t σ H λx H'=>∃k,x= .bl k/\Q k H'
theorem FY{op:SU}{r:R2}(U:j5 X (hh op) r)(Y:PE X a ta)(Z:PE X b tb)(W:kT op b=c_):PT X (.Compare a [op] [b] pos) (Ht (Kx r ta tb)):=by
 intro pins s σ H Q I h;refine wpAny_isTrue_Compare1 (eM (Y pins s σ H _ I h) λv s1 ⟨x,H1,I1,r1,q1⟩=>eM (Z pins s1 σ H1 _ I1 q1) λu s2 ⟨y,H2,I2,r2,q2⟩=>
  eM (U pins s2 σ H2 x y v u _ I2 r1 r2 q2) λc s3 ⟨z,H3,I3,r3,k,e,q3⟩=>?_) W
 subst e;cases r3;exact OP ⟨H3,I3,q3⟩
def yU(r r':R2)(ta tb tc:TE):TE:=λσ H Q=>ta σ H λx H1=>tb σ H1 λy H2=>r x y H2 λz H3=>∃k,z= .bl k/\
 (if k=b_ then tc σ H3 λw' H4=>r' y w' H4 Q else Q (.bl c_) H3)
theorem C6{op Z:SU}{r W:R2}(P:j5 X (hh op) r)(Y:j5 X (hh Z) W)(S:PE X a ta)(U:PE X b tb)(T:PE X c tc)
  (R:R7 [op,Z] [b,c]=false:=by with_unfolding_all rfl):PE X (.Compare a [op,Z] [b,c] pos) (yU r W ta tb tc):=by
 intro pins s σ H Q I h;refine Compare_chain (eM (S pins s σ H _ I h) λv s1 ⟨x,H1,I1,r1,q1⟩=>chain_link (eM (U pins s1 σ H1 _ I1 q1) λu s2 ⟨y,H2,I2,r2,q2⟩=>
  eM (P pins s2 σ H2 x y v u _ I2 r1 r2 q2) λd s3 ⟨z,H3,I3,r3,k,e,q3⟩=>?_)) R
 subst e;cases r3;refine OP ?_;cases k with
 |false=>exact ite_ff ⟨.bl c_,H3,I3,rfl,q3⟩
 |true=>exact ite_tt (chain_last (eM (T pins s3 σ H3 _ I3 q3) λw' s4 ⟨z',H4,I4,r4,q4⟩=>Y pins s4 σ H4 y z' u w' Q I4 r2 r4 q4))
theorem C7{op Z:SU}{r W:R2}(R:j5 X (hh op) r)(Y:j5 X (hh Z) W)(T:PE X a ta)(P:PE X b tb)(U:PE X c tc)
  (N:R7 [op,Z] [b,c]=false:=by with_unfolding_all rfl):PT X (.Compare a [op,Z] [b,c] pos) (Ht (yU r W ta tb tc)):=by
 intro pins s σ H Q I h;refine isTrue_chain (eM (T pins s σ H _ I h) λv s1 ⟨x,H1,I1,r1,q1⟩=>test_link (eM (P pins s1 σ H1 _ I1 q1) λu s2 ⟨y,H2,I2,r2,q2⟩=>
  eM (R pins s2 σ H2 x y v u _ I2 r1 r2 q2) λd s3 ⟨z,H3,I3,r3,k,e,q3⟩=>?_)) N
 subst e;cases r3;refine OP ?_;cases k with
 |false=>
  obtain⟨L,O,S⟩:=q3;cases O;exact ite_ff ⟨H3,I3,S⟩
 |true=>
  refine ite_tt (test_last (eM (U pins s3 σ H3 _ I3 q3) λw' s4 ⟨z',H4,I4,r4,q4⟩=>eM (Y pins s4 σ H4 y z' u w' _ I4 r2 r4 q4) λd' s5 ⟨z2,H5,I5,r5,k2,e2,q5⟩=>?_));subst e2;cases r5;exact OP ⟨H5,I5,q5⟩
def KF(K:cC)(x:V)(H:Hp)(k:Bool):Prop:=
 match x with
 | .non=>k=c_
 | .bl b=>k=b
 | .int i=>k=(i !=0)
 | .str y=>y.length<=sizeLine/\k=((y.length:Int) !=0)
 | .byt y=>y.size<=sizeLine/\k=((y.size:Int) !=0)
 | .ref p=>(∃xs,lQ K H p xs/\k= !xs.isEmpty)\/(∃xs,mR K H p xs/\k= !xs.isEmpty)\/∃kvs,H p=ar (.dK kvs)/\k= !kvs.isEmpty
 |_=>False
theorem yV{Y:Type}{Z:List (Y×V)}{vs:List (Y×a_)}(r:KV Z vs):(!vs.isEmpty)= !Z.isEmpty:=by cases r<;>rfl
theorem rG{xs:List V}{its:List a_}(r:bJ xs its):(!its.toArray.isEmpty)= !xs.isEmpty:=by cases r<;>simp
theorem pE:(sizeLine:Nat)<2 ^ 63:=by rw[OW];decide
theorem IC:My X (λx H Q=>∃k,KF X.K x H k/\Q k H):=by
 intro pins s σ H x v Q I U h;obtain⟨k,e,q⟩:=h;have N:=pE;have hs:sizeLine=16777216:=OW;cases x with
 |non=>
  cases U;have Z:k=false:=e;subst Z;exact truthy_none ⟨H,I,q⟩
 |bl b=>
  cases U;have Z:k=b:=e;subst Z;exact OP ⟨H,I,q⟩
 |int i=>
  obtain⟨t,rfl⟩:=U;have Z:k=(i !=0):=e;subst Z;exact PySem.P.truthy_int ⟨H,I,q⟩
 |str y=>
  obtain⟨t,rfl⟩:=U;obtain⟨R,Z⟩:y.length<=sizeLine/\k=((y.length:Int) !=0):=e;subst Z;exact PySem.P.truthy_str (by omega) ⟨H,I.tok _,q⟩
 |byt y=>
  obtain⟨t,rfl⟩:=U;obtain⟨R,Z⟩:y.size<=sizeLine/\k=((y.size:Int) !=0):=e;subst Z;exact W.truthy_bytes (by omega) ⟨H,I.tok _,q⟩
 | ref p=>
  cases U;have Z:(∃xs,lQ X.K H p xs/\k= !xs.isEmpty)\/(∃xs,mR X.K H p xs/\k= !xs.isEmpty)\/∃Y,H p=ar (.dK Y)/\k= !Y.isEmpty:=e;rcases Z with⟨xs,hx,Z⟩|⟨xs,hx,Z⟩|⟨Y,hx,Z⟩
  ·subst Z;obtain⟨its,r,T,S⟩:=I.list hx;have hlen:=r.length;exact wpAny_truthy_list T.isList (by simp only[km];omega) ⟨H,I.tok _,by rw[rG r];exact q⟩
  ·subst Z;obtain⟨its,r,T,S⟩:=I.tuple hx;have hlen:=r.length;exact truthy_tuple T (by simp only[km];omega) ⟨H,I.tok _,by rw[rG r];exact q⟩
  ·subst Z;obtain⟨S,O,vs,r,m⟩:Y.length<=sizeLine/\(p==Sq)=c_/\∃vs,KV Y vs/\s.heap.DictOf (u6 X.prog X.w) p vs:=I.hok p _ hx;have hlen:Y.length=vs.length:=Paired.length r;exact wpAny_truthy_dict O m (by omega) ⟨H,I.tok _,by rw[yV r];exact q⟩
 |_=>exact(show False from e).elim
theorem C8(Y:PE X a ta)(W:∀whole,isTrue a X.env whole=(do let v<-whole;xi a.pos;wh [v] (SL v))):
  PT X a (λσ H Q=>ta σ H λx Z=>∃k,KF X.K x Z k/\Q k Z):=by
 intro pins s σ H Q I h;exact isTrue_plain (eM (Y pins s σ H _ I h) λv s1 ⟨x,H1,I1,r1,q1⟩=>IC pins s1 σ H1 x v Q I1 r1 q1) (W _)
theorem vals1{x:V}{us:List a_}(r:bJ [x] us):∃u,us=[u]/\RelV x u:=by
 cases r with
 |cons r1 r2=>cases r2;exact⟨_,rfl,r1⟩
theorem vals2{x y:V}{us:List a_}(r:bJ [x,y] us):∃u w',us=[u,w']/\RelV x u/\RelV y w':=by
 cases r with
 |cons r1 r2=>
  cases r2 with
  |cons r3 r4=>cases r4;exact⟨_,_,rfl,r1,r3⟩
theorem BK(Z:X.calm=b_):d8 X (.builtin "max") (λxs H Q=>∃i j,xs=[.int i,.int j]/\Q (.int (if j>i then j else i)) H):=by
 intro pins s σ H xs us Q I r h;obtain⟨i,j,rfl,q⟩:=h;obtain⟨u,W,rfl,⟨t,rfl⟩,⟨t',rfl⟩⟩:=vals2 r;refine max_two_ints (I.ok.hd Z) λh' Y k=>⟨_,H,I.kept k,?_,q⟩;by_cases hj:j>i
 ·rw[if_pos hj,if_pos hj];exact⟨_,rfl⟩
 ·rw[if_neg hj,if_neg hj];exact⟨_,rfl⟩
theorem BN(Z:X.calm=b_):d8 X (.builtin "min") (λxs H Q=>∃i j,xs=[.int i,.int j]/\Q (.int (if j<i then j else i)) H):=by
 intro pins s σ H xs us Q I r h;obtain⟨i,j,rfl,q⟩:=h;obtain⟨u,W,rfl,⟨t,rfl⟩,⟨t',rfl⟩⟩:=vals2 r;refine min_two_ints (I.ok.hd Z) λh' Y k=>⟨_,H,I.kept k,?_,q⟩;by_cases hj:j<i
 ·rw[if_pos hj,if_pos hj];exact⟨_,rfl⟩
 ·rw[if_neg hj,if_neg hj];exact⟨_,rfl⟩
end
structure ObjM(h:eg)(x dx C:b')(mA:Str->Option a_):Prop where
 obj:h.get? x=ar (SF C dx)
 ns:h.Ns1 dx mA
 ne:dx≠x
theorem BO{h:eg}{Y:b'}{mA:Str->Option a_}(n:h.Ns1 Y mA):∃od,h.get? Y=ar od/\∀name,SV name od=ar (mA name):=by
 obtain⟨o,es,R,X,hd,S,_,hm⟩:=n;refine⟨o,X,λname=>?_⟩;have e:=hm name;unfold nsFind findBy at e;rw[<-Array.find?_toList]at e;unfold SV;rw[hd];dsimp only;split
 ·rename_i y q
  rw[q]at e;exact P6 ar e
 ·rename_i q
  rw[q]at e;have a:es.toList.any (·.refKey)=false:=by rw[List.any_eq_false];intro y U;obtain⟨z,t,Z⟩:=S y (Array.mem_toList_iff.mp U);simp[DictEntry.refKey,Z]
  have T:¬ es.toList.any (·.refKey)=true:=by rw[a];exact Pd
  rw[if_neg T];exact P6 ar e
theorem ObjM.look{h:eg}{x Z C:b'}{mA:Str->Option a_}(I:ObjM h x Z C mA):∃od,W.InstAt h x (SF C Z) C (ar od)/\∀name,SV name od=ar (mA name):=
 let ⟨od,ho,hl⟩:=BO I.ns
 ⟨od,⟨I.obj,rfl,rfl,ho⟩,hl⟩
section
variable {prog:dV}{w:d_}{A:f_}{E:a_->cn->Prop}{s:cn}{K:cC}{x dx C f:b'}{mA:Str->Option a_}{name:Str}{v:a_}
end
section
variable {P:dV}{w:d_}{H H':Hp}{h h':eg}{a C dx:b'}{fs fs':List (Str×V)}
theorem FZ(Z:kh P w H h)(e:H a=ar (.ins C dx fs)):∃mA,ObjM h a dx C mA/\(∀f,CT (fs.lookup f) (mA f))/\PySem.Within mA (fs.map (·.1))/\fs.length<=1000/\H dx=ar (.own a):=by obtain⟨d,z,ne,Y,mA,n,r,q⟩:=(show cy P w H h a (.ins C dx fs)from Z a _ e);exact⟨mA,⟨Y,n,ne⟩,r,q,z,d⟩
end
structure Cls(K:cC)(C:b'):Prop where
 pg:W.plainGet K C Str.empty=b_
 hd:W.hasDictIn K C=b_
 po:W.plainOver K C=b_
 sa:G_ K (.ref C) "__setattr__"=ar (ar (.builtin "object.__setattr__"))
theorem Cls.get{K:cC}{C:b'}(c:Cls K C)(f:Str):W.plainGet K C f=true:=c.pg
structure Con(K:cC)(C:b')(f:Str)(v:V)(u:a_):Prop where
 at_:G_ K (.ref C) f=ar (ar u)
 rel:RelV v u
 get:W.specialIn K u "__get__"=ar none
 cp:W.copiedNames.contains f=c_
structure Meth(K:cC)(C:b')(m:Str)(f:b'):Prop where
 at_:G_ K (.ref C) m=ar (ar (.ref f))
 fn:W.isFn K (.ref f)=b_
 kp:wm K (.ref f)=b_
section
variable {X:Cx}{pins:List (b'×Obj)}{σ:St}{H:Hp}{s:cn}{a C dx:b'}{fs:List (Str×V)}{f:Str}{v:V}{A:f_}{E:a_->cn->Prop}
end
section
variable {X:Cx}{o e value:Expr}{f:Str}{pos pos' tpos:Pos}{ta tv:TE}
end
section
variable {X:Cx}{pins:List (b'×Obj)}{σ:St}{H:Hp}{s:cn}{A:f_}{E:a_->cn->Prop}{Q:a_->cn->Prop}{c:a_}{b:Bool}
inductive TyOf(K:cC)(H:Hp):V->a_->Prop where
 |non:TyOf K H .non (.type "NoneType")
 |bl (x:Bool):TyOf K H (.bl x) (.type "bool")
 |int (i:Int):TyOf K H (.int i) (.type "int")
 |str (x:Str):TyOf K H (.str x) (.type "str")
 |flt (x:UInt64):TyOf K H (.flt x) (.type "float")
 |lst {a:b'} {xs:List V} (e:H a=ar (.lst xs)):TyOf K H (.ref a) (.type "list")
 |frz {a:b'} {o:Obj} {xs:List V} (e:H a=ar (.frz o (.lst xs))):TyOf K H (.ref a) (.type "list")
 |tup {a:b'} {xs:List V} (e:H a=ar (.tup xs)):TyOf K H (.ref a) (.type "tuple")
 |dK {a:b'} {kvs:List (Key×V)} (e:H a=ar (.dK kvs)):TyOf K H (.ref a) (.type "dict")
 |dT {a:b'} {kvs:List (List Key×V)} (e:H a=ar (.dT kvs)):TyOf K H (.ref a) (.type "dict")
 | ins {a C dx:b'} {fs:List (Str×V)} (e:H a=ar (.ins C dx fs)) (cl:Cls K C) (ha:G_ K (.ref C) "__class__"=ar (ar (.builtin "object.__class__")))
   (hn:W.specialIn K (.builtin "object.__class__") "__get__"=ar (ar (.builtin "getset_descriptor.__get__"))) (htk:W.takesIn K (.builtin "object.__class__")=ar b_)
   (hm:W.mroIn K C (.type "object")=ar b_):TyOf K H (.ref a) (.ref C)
theorem BP{x:V}{u t:a_}(I:Inv X pins σ H s)(Z:RelV x u)(S:TyOf X.K H x t)(e:xn X.K t c=ar b)(h:∀tk,Q (.bool b) {s with toks:=tk}):
  ed (er X.prog X.w) A (call (.builtin "isinstance") [u,c]) Q E s:=by
 cases S with
 |non=>cases (show u=i_ from Z);exact OY W.kitx_none I.kIn I_ e (λz=>nomatch z) h
 |bl y=>cases (show u=u4 y from Z);exact OY W.kitx_bool I.kIn I_ e (λz=>nomatch z) h
 |int i=>obtain⟨t,q⟩:=(show ∃t,u=u_ i t from Z);cases q;exact OY W.kitx_int I.kIn I_ e (λz=>nomatch z) h
 |str y=>obtain⟨t,q⟩:=(show ∃t,u=R5 y t from Z);cases q;exact OY W.kitx_str I.kIn I_ e (λz=>nomatch z) h
 |flt y=>obtain⟨t,q⟩:=(show ∃t,u=Value.float y t from Z);cases q;exact OY W.kitx_float I.kIn I_ e (λz=>nomatch z) h
 | @lst a xs ea=>
  cases (show u=ey a from Z);obtain⟨_,_,n,_,Y⟩:=(show cy X.prog X.w H s.heap a (.lst xs)from I.hok a _ ea);exact OY W.kitx_list I.kIn ⟨_,Y,rfl⟩ e (λz=>nomatch z) h
 | @frz a ob xs ea=>
  cases (show u=ey a from Z);obtain⟨_,_,_,n,_,Y⟩:=(show cy X.prog X.w H s.heap a (.frz ob (.lst xs))from I.hok a _ ea);exact OY W.kitx_list I.kIn ⟨_,Y,rfl⟩ e (λz=>nomatch z) h
 | @tup a xs ea=>
  cases (show u=ey a from Z);obtain⟨_,_,_,p⟩:=(show cy X.prog X.w H s.heap a (.tup xs)from I.hok a _ ea);obtain⟨o,Y,U,_⟩:=p;exact OY W.kitx_tuple I.kIn ⟨o,Y,U⟩ e (λz=>nomatch z) h
 | @dK a kvs ea=>
  cases (show u=ey a from Z);obtain⟨_,_,vs,_,p⟩:=(show cy X.prog X.w H s.heap a (.dK kvs)from I.hok a _ ea);obtain⟨o,es,T,Y,U,_⟩:=p;exact OY W.kitx_dict I.kIn ⟨o,Y,U.1⟩ e (λz=>nomatch z) h
 | @dT a kvs ea=>
  cases (show u=ey a from Z);obtain⟨_,_,xs,_,o,es,T,Y,U,_⟩:=(show cy X.prog X.w H s.heap a (.dT kvs)from I.hok a _ ea);exact OY W.kitx_dict I.kIn ⟨o,Y,U.1⟩ e (λz=>nomatch z) h
 | @ins a C dx fs ea cl ha hn htk hm=>
  cases (show u=ey a from Z);obtain⟨mA,O,_⟩:=FZ I.hok ea;obtain⟨R,J,_⟩:=O.look;exact OY (W.kitx_own (cl.get _) cl.hd ha hn htk hm) I.kIn J e (λz=>nomatch z) h
end
structure Room(k:Nat)(A:f_):Prop where
 hd:A.handled=none
 dp:A.depth+3*k+5<recursionLimit
 un:A.units+16*k+200<xy
theorem Room.mono{j k:Nat}{A:f_}(r:Room k A)(h:j<=k):Room j A:=⟨r.hd,by have:=r.dp;omega,by have:=r.un;omega⟩
theorem Room.deeper{k:Nat}{A:f_}(r:Room (k+1) A)(env:Env):Room k (A.deeper env):=
 ⟨r.hd,by have:=r.dp;show A.depth+1+3*k+5<_;omega,by have:=r.un;show A.units+3+16*k+200<_;omega⟩
theorem yW{A:f_}{C:b'}{us:List a_}{Z:List (Str×a_)}:(A.under (.builtin "type.__call__" ⟨.ref C::us,Z⟩)).depth=A.depth+1:=by first|rfl|simp[RP,Code.weight,Code.isCreation,Code.isGuard,Code.isCaller,Code.frames,RQ,guardIds]
theorem yX{A:f_}{C:b'}{us:List a_}{Z:List (Str×a_)}:(A.under (.builtin "type.__call__" ⟨.ref C::us,Z⟩)).units=A.units+1:=by first|rfl|simp[RP,Code.cUnits,Code.frames,RQ]
theorem Room.make{k:Nat}{A:f_}(r:Room (k+1) A)(C:b')(us:List a_)(Z:List (Str×a_)):Room k (A.under (.builtin "type.__call__" ⟨.ref C::us,Z⟩)):=
 ⟨r.hd,by have:=r.dp;rw[yW];omega,by have:=r.un;rw[yX];omega⟩
theorem Room.depth{k:Nat}{A:f_}(r:Room k A):A.depth<recursionLimit:=by have:=r.dp;omega
def MA:TA:=λ_ H Q=>Q [] H
def KG(ta:TE)(tr:TA):TA:=λσ H Q=>ta σ H λx H1=>tr σ H1 λxs H2=>Q (x::xs) H2
section
variable {X:Cx}{e:Expr}{es:List Expr}{te:TE}{t:TA}{pos:Pos}
theorem pF:PA X [] MA:=λ_ _ _ _ H Q I h=>Calls.spliced_nil ⟨[],H,I,.nil,h⟩
theorem kI(Y:PE X e te)(Z:PA X es t)(hs:dt (e::es) X.env=(c_,hD e X.env)::dt es X.env:=by rfl):PA X (e::es) (KG te t):=by intro pos pins s σ H Q I h;rw[hs];show ed _ _ (spliced ((c_,hD e X.env)::oo pos (dt es X.env))) _ _ s;refine Calls.spliced_cons (eM (Y pins s σ H _ I h) λu s1 ⟨x,H1,I1,r1,q1⟩=>?_);exact eM (Z pos pins s1 σ H1 _ I1 q1) λus s2 ⟨xs,H2,I2,r2,q2⟩=>⟨x::xs,H2,I2,.cons r1 r2,q2⟩
def MB(t:TA):TE:=λσ H Q=>t σ H λxs H1=>xs.length<=sizeLine/\∀p,H1 p=none->Q (.ref p) (upd H1 p (.tup xs))
def MC(t:TA):TE:=λσ H Q=>t σ H λxs H1=>xs.length<=sizeLine/\∀p,H1 p=none->Q (.ref p) (upd H1 p (.lst xs))
theorem ID{x1}(h:PA X es t):PE X (.Tuple es x1 pos) (MB t):=by intro pins s σ H Q I Z;refine wpAny_Tuple_spliced (eM (h pos pins s σ H _ I Z) λus s1 ⟨xs,H1,I1,r,z,q⟩=>⟨by rw[<-r.length];exact z,?_⟩);have hf:H1 s1.heap.objs.size=none:=I1.hok.fresh (NQ _);refine⟨.ref s1.heap.objs.size,upd H1 s1.heap.objs.size (.tup xs),I1.laid (t':=s1.toks) (λb u e=>NO _ e) (NQ _) ?_,rfl,q _ hf⟩;exact⟨u9 z,us,r,⟨_,N4 _ rfl,rfl,_,rfl⟩⟩
theorem IE(h:PA X es t):PE X (.List es pos) (MC t):=by intro pins s σ H Q I Z;refine wpAny_List_spliced (eM (h pos pins s σ H _ I Z) λus s1 ⟨xs,H1,I1,r,z,q⟩=>⟨by rw[<-r.length];exact z,?_⟩);have hf:H1 s1.heap.objs.size=none:=I1.hok.fresh (NQ _);refine⟨.ref s1.heap.objs.size,upd H1 s1.heap.objs.size (.lst xs),I1.laid (t':=s1.toks) (λb u e=>NO _ e) (NQ _) ?_,rfl,q _ hf⟩;exact⟨z,us,0,r,N4 _ rfl⟩
end
abbrev Sp:=List V->Hp->VK->XK->Prop
abbrev CO:=List Env->Hp->cn->XK->a_->cn->Prop
structure aE(P:dV)(w:d_)(K:cC)(mg:Str->Option a_)(base:eg)(A:f_)(outer:List Env)(s:cn)(H:Hp):Prop where
 frames:A.frames=ar outer
 mod:Mod K mg base
 bs:∀b o,base.get? b=ar o->s.heap.get? b=ar o/\H b=none
 bsz:base.objs.size<=s.heap.objs.size
 funs:s.heap.FunFrames base outer
 frf:∀b∈qv outer,H b=none
 hok:kh P w H s.heap
 bare:w_ s.gens
def CE(outer:List Env)(P:dV)(w:d_)(H:Hp)(s:cn)(Q:VK)(u:a_)(s':cn):Prop:=
 ∃v H',s'.os=s.os/\w_ s'.gens/\Un (qv outer) [] H H' s.heap s'.heap/\kh P w H' s'.heap/\RelV v u/\Q v H'
def CR(CX:CO)(outer:List Env)(P:dV)(w:d_)(H:Hp)(s:cn)(Q:VK)(E:XK)(r:SM)(s':cn):Prop:=
 match r with
 | .ok (.ret u)=>CE outer P w H s Q u s'
 | .ok _=>False
 | .error e=>CX outer H s E e s'
structure FnOk(P:dV)(w:d_)(K:cC)(mg:Str->Option a_)(base:eg)(CX:CO)(k:Nat)(f:b')(fd:eb)(ps:List Str)(sp:Sp):Prop where
 len:∀vs H Q E,sp vs H Q E->vs.length=ps.length
 run:∀(A:f_) (outer:List Env) (s:cn) (H:Hp) (args:Args) (us:List a_) (vs:List V) (Q:VK) (E:XK),Room k A->aE P w K mg base A outer s H->B_ s fd args (ps.zip us)->bJ vs us->sp vs H Q E->
  sb (er P w) A (.call (.ref f) args) (CR CX outer P w H s Q E) s
theorem aE.make{P:dV}{w:d_}{K:cC}{Z:Str->Option a_}{base:eg}{A:f_}{outer:List Env}{s:cn}{H:Hp}(e:aE P w K Z base A outer s H)(C:b')(us:List a_)(Y:List (Str×a_)):
  aE P w K Z base (A.under (.builtin "type.__call__" ⟨.ref C::us,Y⟩)) outer s H:=⟨by first|exact e.frames|(simpa [RP,Code.envs,RQ,pushEnvs]using e.frames),e.mod,e.bs,e.bsz,e.funs,e.frf,e.hok,e.bare⟩
section
variable {X:Cx}{pins:List (b'×Obj)}{σ:St}{H:Hp}{s s':cn}
theorem Inv.env0(I:Inv X pins σ H s):aE X.prog X.w X.K X.mg X.base X.A X.stack s H:=
 ⟨I.ok.frames,I.ok.mod,I.bs,NZ I.ok.bsz I.sz,I.stack,I.stkFree,I.hok,I.bare⟩
theorem Inv.after{Q:VK}{u:a_}(I:Inv X pins σ H s)(h:CE X.stack X.prog X.w H s Q u s'):EP X pins σ Q u s':=by obtain⟨v,U,os,bare,un,Y,r,q⟩:=h;obtain⟨W,g,d,t,Z⟩:=s';obtain rfl:Z=s.os:=os;exact⟨v,U,I.call (h':=W) (g':=g) (d':=d) (t':=t) (ch:=[]) un Y bare (λb z=>absurd z (by simp)),r,q⟩
end
def KI(sp:Sp)(dvs:List V)(E:XK)(t:TA):TE:=λσ H Q=>t σ H λvs H1=>sp (vs++dvs) H1 Q E
def Binds(K:cC)(fd:eb)(ps:List Str)(ds:List a_):Prop:=
 ∀(s:cn) (us:List a_),K.In s.heap->(us++ds).length=ps.length->B_ s fd ⟨us,[]⟩ (ps.zip (us++ds))
theorem Binds.all{K:cC}{Y:eb}{Z:List Str}(h:∀us:List a_,us.length=Z.length->bindArgs Y ⟨us,[]⟩=aC (Z.zip us)):Binds K Y Z []:=λs us _ X=>by rw[Oi]at X⊢;exact .of_eq (h us X)
def rH(CX:CO)(X:Cx)(E:XK):Prop:=∀(pins:List (b'×Obj)) (σ:St) (H:Hp) (s:cn) (e:a_) (s':cn),Inv X pins σ H s->CX X.stack H s E e s'->X.xe e s'
section
variable {X:Cx}{CX:CO}{k:Nat}{f C:b'}{fd:eb}{ps:List Str}{sp:Sp}{dvs:List V}{ds:List a_}{E:XK}{x m:Str}{p pos apos:Pos}{e o:Expr}{es:List Expr}{ta:TE}{t:TA}
theorem IF{Z:List (b'×Obj)}{W:St}{H:Hp}{s:cn}{Q:VK}{us:List a_}{vs:List V}(F:FnOk X.prog X.w X.K X.mg X.base CX k f fd ps sp)(R:Room k X.A)(P:Binds X.K fd ps ds)(O:bJ dvs ds)(T:rH CX X E)
  (I:Inv X Z W H s) (r:bJ vs us) (h:sp (vs++dvs) H Q E):ed (er X.prog X.w) X.A (call (.ref f) us) (EP X Z W Q) X.xe s:=by
 have U:bJ (vs++dvs) (us++ds):=r.append O;have S:(us++ds).length=ps.length:=by rw[<-U.length];exact F.len _ _ _ _ h
 refine RG (Qj (F.run X.A X.stack s H ⟨us,[]⟩ (us++ds) (vs++dvs) Q E R I.env0 (P s us I.kIn S) U h) λr s' Y=>?_);cases r with
 |error e=>exact T Z W H s e s' I Y
 |ok fl=>
  cases fl with
  |ret u=>exact I.after Y
  |next=>exact ke Y
  |brk=>exact ke Y
  |cont=>exact ke Y
theorem Az(F:FnOk X.prog X.w X.K X.mg X.base CX k f fd ps sp)(S:Room k X.A)(L:Gl X x)(O:X.mg x=ar (.ref f))(N:wm X.K (.ref f)=b_)(R:Binds X.K fd ps ds)(P:bJ dvs ds)(T:rH CX X E)
  (U:PA X (e::es) t) (Y:(x==("__debug__":Str))=false:=by decide) (J:dt (e::es) X.env=(c_,hD e X.env)::dt es X.env:=by rfl) (Z:(oo pos (dt es X.env)).any (·.1)=false:=by rfl):
  PE X (.Call (.Name x p) (e::es) [] pos) (KI sp dvs E t):=by
 intro pins s σ H Q I h;refine Q3 (rl I L O ?_ Y);refine W.callWith_K (h₀:=X.base) I.ok.mod.kin N (eM (U pos pins s σ H _ I h) λus s1 ⟨vs,H1,I1,r,q⟩=>⟨I1.kIn,?_⟩) J Z;exact IF F S R P T I1 r q
structure Mk(K:cC)(C f:b'):Prop where
 makes:W.makesIn K C=b_
 init:G_ K (.ref C) "__init__"=ar (ar (.ref f))
 fn:W.isFn K (.ref f)=b_
 kp:wm K (.ref C)=b_
end
section
variable {X:Cx}{CX:CO}{k:Nat}{f C:b'}{fd:eb}{ps ks:List Str}{sp:Sp}{E:XK}{x m:Str}{p pos apos kpos:Pos}{e o:Expr}{es:List Expr}{kws:List Sn}{te ta:TE}{t tk:TA}{nm:Option Str}
structure KBinds(K:cC)(fd:eb)(ps ks:List Str)(g:List a_->List a_->List a_)(gV:List V->List V->List V):Prop where
 to:∀(s:cn) (us ws:List a_),K.In s.heap->(g us ws).length=ps.length->B_ s fd ⟨us,ks.zip ws⟩ (ps.zip (g us ws))
 rel:∀{vs:List V} {us:List a_} {zs:List V} {ws:List a_},bJ vs us->bJ zs ws->bJ (gV vs zs) (g us ws)
variable {g:List a_->List a_->List a_}{gV:List V->List V->List V}
end
structure FnScope(N P:List Str)(sc:Scope):Prop where
 kind:sc.kind= .function
 co:sc.isCoroutine=c_
 gen:sc.isGenerator=c_
 nd:N.Nodup
 pre:N.take P.length=P
 par:∀x∈P,sc.names.lookup x=ar .local\/sc.names.lookup x=ar .cell
 nofree:∀y∈sc.names,y.2≠ .free
theorem ui{Z:Str->Option lB}{x:Str}:∀{binds:List (Str×a_)} {m:Str->Option a_},(∀v,(x,v)∉binds)->Su Z binds m x=m x
 |[],_,_=>rfl
 | (n,v)::r,m,h=>by
  unfold Su;rw[ui λw hw=>h w (N7 _ hw)];split
  ·have:x≠n:=by rintro rfl;exact h v Ol
   simp[this]
  ·rfl
theorem uj{Z:Str->Option lB}{x:Str}:∀{binds:List (Str×a_)} {m:Str->Option a_},(∀v,(x,v)∉binds)->Sv Z binds m x=m x
 |[],_,_=>rfl
 | (n,v)::r,m,h=>by
  unfold Sv;rw[uj λw hw=>h w (N7 _ hw)];split
  ·rfl
  ·have:x≠n:=by rintro rfl;exact h v Ol
   simp[this]
theorem uk{Z:Str->Option lB}{x:Str}{v:a_}:∀{P:List Str} {vs:List a_} {i:Nat} {m:Str->Option a_},P.Nodup->P[i]? =ar x->vs[i]? =ar v->Z x=ar .local->
  Su Z (P.zip vs) m x=ar v
 |[],_,_,_,_,h,_,_=>by simp at h
 |_::_,[],_,_,_,_,h,_=>by simp at h
 |p::P,w::vs,0,m,nd,h1,h2,hk=>by
  simp at h1 h2;subst h1;subst h2;show Su Z ((p,w)::P.zip vs) m p=_;unfold Su;rw[ui λv Y=>(ON.mp nd).1 (Qm Y).1,if_pos hk];simp
 |p::P,w::vs,i+1,m,nd,h1,h2,hk=>by
  show Su Z ((p,w)::P.zip vs) m x=_;unfold Su;exact uk (i:=i) (ON.mp nd).2 (by simpa using h1) (by simpa using h2) hk
theorem um{Z:Str->Option lB}{x:Str}{v:a_}:∀{P:List Str} {vs:List a_} {i:Nat} {m:Str->Option a_},P.Nodup->P[i]? =ar x->vs[i]? =ar v->Z x≠ar .local->
  Sv Z (P.zip vs) m x=ar v
 |[],_,_,_,_,h,_,_=>by simp at h
 |_::_,[],_,_,_,_,h,_=>by simp at h
 |p::P,w::vs,0,m,nd,h1,h2,hk=>by
  simp at h1 h2;subst h1;subst h2;show Sv Z ((p,w)::P.zip vs) m p=_;unfold Sv;rw[uj λv Y=>(ON.mp nd).1 (Qm Y).1,if_neg hk];simp
 |p::P,w::vs,i+1,m,nd,h1,h2,hk=>by
  show Sv Z ((p,w)::P.zip vs) m x=_;unfold Sv;exact um (i:=i) (ON.mp nd).2 (by simpa using h1) (by simpa using h2) hk
def start(N:List Str)(vs:List V):St:=vs.map ar++k' (N.length - vs.length) none
def pG(CX:CO)(P:dV)(w:d_)(K:cC)(mg:Str->Option a_)(base:eg)(N:List Str)(qual:Str)(scope:Scope)(f:b')(cd:a_)(A:f_)(outer:List Env)(s:cn)(H:Hp)(E:XK):Cx where
 prog:=P
 w:=w
 K:=K
 mg:=mg
 base:=base
 A:=A.deeper (zm qual scope s.heap.objs.size f cd)
 N:=N
 s₀:=s
 H₀:=H
 env:=zm qual scope s.heap.objs.size f cd
 outer:=outer
 stack:=zm qual scope s.heap.objs.size f cd::outer
 ex:=[]
 calm:=b_
 fn:=λ_=>b_
 pn:=[]
 xe:=λe s'=>ed (er P w) (A.deeper (zm qual scope s.heap.objs.size f cd)) (RR (zm qual scope s.heap.objs.size f cd) e) (λ_ s''=>CX outer H s E e s'') (λe' s''=>CX outer H s E e' s'') s'
theorem xa{Z:Scope}{n:Nat}{x:Str}(h:Z.names.lookup x=ar .cell):∃c,(i' n Z.names []).lookup x=ar c:=by have q:=Qu Z.names n [] (.inl h);exact PH.mp q
theorem BQ{F:CO}{P:dV}{w:d_}{K:cC}{I:Str->Option a_}{base:eg}{N U:List Str}{qual:Str}{scope:Scope}{f:b'}{O:a_}{A:f_}{outer:List Env}{s C:cn}{H:Hp}{E:XK}{us:List a_}{vs:List V}
  (S:FnScope N U scope) (o:A.handled=none) (Y:aE P w K I base A outer s H) (g:vs.length=U.length) (r:bJ vs us)
  (x:InCallC s s.heap.objs.size (Su (zm qual scope s.heap.objs.size f O).kindOf (U.zip us) λ_=>none) (i' (s.heap.objs.size+1) scope.names []) (Sv (zm qual scope s.heap.objs.size f O).kindOf (U.zip us) λ_=>none) C):
  Inv (pG F P w K I base N qual scope f O A outer s H E) [] (start N vs) H C:=by
 have m:U.length<=N.length:=by have:=P6 B' S.pre;rw[OO]at this;omega
 obtain⟨J,j,rfl,B⟩:=x.done;have X:∀b:b',b∉(pG F P w K I base N qual scope f O A outer s H E).ex:=λb z=>absurd (show b∈([]:List b')from z) (by simp);refine⟨⟨Y.mod,S.kind,rfl,rfl,NQ _,λy z c J Z=>?_,λy T=>?_,λy c _ h=>?_,λ_=>o,Around.frames_deeper Y.frames,.inr ⟨rfl,rfl⟩,λb z=>absurd z (X b),Y.bs,Y.bsz,λb _ _=>X b,λb z=>absurd z (X b),Y.funs,Y.frf⟩,
  rfl,Y.bare,Un.kept B,⟨_,x.toInCall.ns,λi y v J Z d=>?_⟩,λy c h=>⟨_,x.cell y c h⟩,Y.hok.fresh (NQ _),λy c h=>?_,λp R=>absurd (show p∈([]:List (b'×Obj))from R) (by simp),Y.hok.kept B,?_⟩
 ·exact name_of_addr x.apart (PN J) (PN Z)
 ·have T:scope.names.lookup y=ar .cell\/scope.names.lookup y=ar .free:=T;rcases T with T|T
  ·exact xa T
  ·exact absurd rfl (S.nofree _ (PN T))
 ·exact Qi (x.above y c (PN h))
 ·have L:i<vs.length:=by
   unfold start at Z;by_cases L:i<vs.length
   ·exact L
   ·rw[O9 (by simpa using L)]at Z;rw[List.getElem?_replicate]at Z;split at Z<;>cases Z
  have l:vs[i]? =ar v:=by
   unfold start at Z;rw[Os (by simpa using L),OR]at Z;cases e:vs[i]? with
   |none=>rw[e]at Z;cases Z
   |some a=>rw[e]at Z;cases Z;rfl
  obtain⟨u,G,t⟩:=r.get l;have R:U[i]? =ar y:=by rw[<-S.pre,List.getElem?_take_of_lt (by omega)];exact J
  have Q:U.Nodup:=by rw[<-S.pre];exact S.nd.sublist (List.take_sublist _ _)
  refine⟨u,t,?_⟩;rcases S.par y (OC R)with k|k
  ·exact .inl ⟨k,uk Q R G k⟩
  ·obtain⟨c,e⟩:=xa (n:=s.heap.objs.size+1) k;refine .inr ⟨.inl k,c,e,?_⟩;have q:=x.cell y c e;rw[um Q R G (by show scope.names.lookup y≠_;rw[k];decide)]at q;exact q
 ·exact Y.hok.fresh (Qi (x.above y c (PN h)))
 ·unfold start;show _=N.length;rw[NP,NM,List.length_replicate];omega
theorem Hu{F:CO}{P:dV}{w:d_}{K:cC}{B:Str->Option a_}{base:eg}{k:Nat}{f:b'}{name qual:Str}{params:P'}{body:List n_}{scope:Scope}{h kV G g Z ct oc:a_}{j a:Option b'}
  {p:Array (Option a_)} {N C:List Str} {sp:Sp} (lk:K.lookup f=ar ⟨oc,a,.func (wR name qual params body scope h kV G g j Z ct),p⟩) (z:K' K Z qual=b_) (S:FnScope N C scope)
  (O:∀vs H Q E,sp vs H Q E->vs.length=C.length)
  (T:∀(A:f_) (outer:List Env) (s:cn) (H:Hp) (vs:List V) (Q:VK) (E:XK),Room k (A.deeper (zm qual scope s.heap.objs.size f Z))->sp vs H Q E->
   ∃t,tK (pG F P w K B base N qual scope f Z A outer s H E) body t/\t {nx:=λ_ X=>Q .non X,rt:=Q} (start N vs) H):
  FnOk P w K B base F (k+1) f (wR name qual params body scope h kV G g j Z ct) C sp:=by
 refine⟨O,λA outer s H args us vs Q E l L c r R=>?_⟩;have hl:=O _ _ _ _ R;have i:K.In s.heap:=L.mod.kin.keeps λb o e=>(L.bs b o e).1;have lim:s.heap.NoLimit:=L.mod.nolimit.keeps λb o e=>(L.bs b o e).1;have U:∀y∈C.zip us,scope.names.lookup y.1=ar .local\/(scope.names.lookup y.1=ar .cell/\((i' (s.heap.objs.size+1) scope.names []).lookup y.1).isSome=b_):=λ⟨n,v⟩ hy=>by
  rcases S.par n (Qm hy).1 with q|q
  ·exact .inl q
  ·exact .inr ⟨q,Qu _ _ _ (.inl q)⟩
 refine codeAny_call_function l.depth (i _ _ lk) rfl S.co S.gen rfl (W.codeRec_of i z) (c _ _ _ _ ?_);refine wpAny_newFunctionEnv_cells S.kind U λenv he s1 x=>?_;subst he;refine⟨lim.keeps x.toInCall.keep,codeAny_func ?_⟩;obtain⟨t,ht,hq⟩:=T A outer s H vs Q E (l.deeper _) R;have I:Inv (pG F P w K B base N qual scope f Z A outer s H E) [] (start N vs) H s1:=BQ S l.hd L hl r x;refine Oq (ht [] s1 (start N vs) H _ I hq) (λd s' hs=>?_) λe s' hs=>hs;have fin:∀{Y:St} {X:Hp} {v:V} {u:a_},Inv (pG F P w K B base N qual scope f Z A outer s H E) [] Y X s'->RelV v u->Q v X->CE outer P w H s Q u s':=
  λ{Y X v u} J m q=>⟨v,X,J.os,J.bare,J.base,J.hok,m,q⟩
 cases d with
 |ret u=>
  obtain⟨v,Y,X,J,m,q⟩:=hs;exact fin J m q
 |next=>
  obtain⟨Y,X,J,q⟩:=hs;exact fin (v:=V.non) (u:=i_) J rfl q
 |brk=>
  obtain⟨_,_,_,q⟩:=hs;exact ke q
 |cont=>
  obtain⟨_,_,_,q⟩:=hs;exact ke q
section
variable {X:Cx}{x:Str}{p pos:Pos}{e:Expr}{es:List Expr}{t:TA}{id T:String}{r:List V->Hp->VK->Prop}
def MD(r:List V->Hp->VK->Prop)(t:TA):TE:=λσ H Q=>t σ H λvs H1=>r vs H1 Q
theorem rJ(U:d8 X (.builtin id) r)(O:Gl X x)(R:X.mg x=none)(W:k_ x=ar (.builtin id))(S:PA X (e::es) t)(P:x≠"__name__":=by decide)(Y:(x==("__debug__":Str))=false:=by decide)
  (N:dt (e::es) X.env=(c_,hD e X.env)::dt es X.env:=by rfl) (Z:(oo pos (dt es X.env)).any (·.1)=false:=by rfl):PE X (.Call (.Name x p) (e::es) [] pos) (MD r t):=by
 intro pins s σ H Q I h;refine Q3 (nJ I O R W ?_ P Y);exact PyProof.Rows.callWith_builtin1 (eM (S pos pins s σ H _ I h) λus s1 ⟨vs,H1,I1,r1,q1⟩=>U pins s1 σ H1 vs us Q I1 r1 q1) N Z
theorem mS(U:d8 X (.type T) r)(O:Gl X x)(R:X.mg x=none)(W:k_ x=ar (.type T))(S:PA X (e::es) t)(P:x≠"__name__":=by decide)(Y:(x==("__debug__":Str))=false:=by decide)
  (N:dt (e::es) X.env=(c_,hD e X.env)::dt es X.env:=by rfl) (Z:(oo pos (dt es X.env)).any (·.1)=false:=by rfl):PE X (.Call (.Name x p) (e::es) [] pos) (MD r t):=by
 intro pins s σ H Q I h;refine Q3 (nJ I O R W ?_ P Y);exact O6 (eM (S pos pins s σ H _ I h) λus s1 ⟨vs,H1,I1,r1,q1⟩=>U pins s1 σ H1 vs us Q I1 r1 q1) N Z
end
end L2
namespace HT
open PySem PyProof.Rows
def lexLt:List Int->List Int->Bool
 |[],[]=>c_
 |[],_::_=>b_
 |_::_,[]=>c_
 |x::xs,y::ys=>if x=y then lexLt xs ys else decide (x<y)
theorem lexLt_cons(x y:Int)(xs ys:List Int):lexLt (x::xs) (y::ys)=if x=y then lexLt xs ys else decide (x<y):=rfl
theorem tL:lexLt [] []=false:=rfl
theorem rK(y:Int)(ys:List Int):lexLt [] (y::ys)=true:=rfl
theorem rL(x:Int)(xs:List Int):lexLt (x::xs) []=false:=rfl
theorem C9(A:f_)(s:cn)(a:Int)(t:Tok)(c:Int)(u:Tok):∃e,SeqAt.EqAt A s (.int a t) (.int c u) e/\(e=b_↔a=c):=
 ⟨(a==c),SeqAt.EqAt.int_int a t c u,by simp⟩
theorem Da(A:f_)(s:cn)(a:Int)(t:Tok)(c:Int)(u:Tok)(prog:dV)(w:d_)(E:a_->cn->Prop)(Q:a_->cn->Prop)(h:Q (.bool (decide (a<c))) s):
  ed (er prog w) A (richCompare .Lt (.int a t) (.int c u)) Q E s:=
 (PyProof.Rows.lt_int h:ed (er prog w) A (hh .Lt (.int a t) (.int c u)) Q E s)
section
open PySem.SeqAt
open PySem.AutoSeq1 (wpAny_loadPart')
open PySem.MeetsSeq PySem.MeetsSeq2 PySem.MeetsSeq3
theorem tN(l b:b')(items Z:Array a_)(n I:Nat)(dd S:Option b')(K Q:Array (Option a_))(ns W:List Int)(P:ma items.toList ns)(O:ma Z.toList W):
  Tf (Builtin.«tuple.__lt__» ⟨[.ref l,.ref b],[]⟩)
   (λ_ R s=>s.heap.get? l=ar {cls:=.type "tuple",dict:=dd,data:=.seq items n,slots:=K}/\s.heap.get? b=ar {cls:=.type "tuple",dict:=S,data:=.seq Z I,slots:=Q}/\
    R (.ok (.ret (.bool (lexLt ns W)))) s):=
 .of_wp λprog w A R s h=>by
  obtain⟨U,g,d,X,os⟩:=s;obtain⟨J,L,h⟩:=h;have f2:=AutoSeq1.sub_tuple_tuple;have H:items.size=ns.length:=by rw[<-P.length];simp
  have G:Z.size=W.length:=by rw[<-O.length];simp
  wp_walk using Rw J,Rw L,wpAny_forIn_list _ (λrest b s'=>b.1=none/\s'=⟨U,g,d,X,os⟩/\∃(vs ws:List a_) (ns' ms':List Int),rest=vs.zip ws/\
   ma vs ns'/\ma ws ms'/\ns'.length+Z.size=ms'.length+items.size/\R (.ok (.ret (.bool (lexLt ns' ms')))) ⟨U,g,d,X,os⟩) _
  case turn=>
   rintro⟨y,x⟩ rest b s' ⟨hb',rfl,vs,ws,ns',ms',hz,hvi,hwi,hlen,hR⟩;cases hvi with
   |nil=>rw[List.zip_nil_left]at hz;cases hz
   | cons a t hvi'=>
    cases hwi with
    |nil=>rw[List.zip_nil_right]at hz;cases hz
    | cons c u hwi'=>
     rw[z3]at hz;injection hz with hyx hrest;injection hyx with hy hx;subst hy hx;rw[lexLt_cons]at hR;simp only[r_]at hlen;obtain⟨e,he,Y⟩:=C9 A.in1 ⟨U,g,d,X,os⟩ a t c u;refine NN (he prog w _ _ ?_);cases e with
     |true=>
      rw[if_pos (Y.mp rfl)]at hR
      wp_walk
      exact⟨rfl,rfl,_,_,_,_,hrest,hvi',hwi',by omega,hR⟩
     |false=>
      rw[if_neg (λq=>absurd (Y.mpr q) Pd)]at hR;have T:=Da A.in1 ⟨U,g,d,X,os⟩ a t c u prog w
      wp_walk using T
      exact⟨_,rfl,by simpa using hR⟩
  case fin=>
   rintro⟨b1,b2⟩ s' ⟨hb',rfl,vs,ws,ns',ms',hz,hvi,hwi,hlen,hR⟩;simp only at hb';subst hb';have N:lexLt ns' ms'=decide (items.size<Z.size):=by
    cases hvi with
    | nil=>
     cases hwi with
     |nil=>
      simp only[x']at hlen;rw[tL];exact(Ot (by omega)).symm
     |cons c u hw=>
      simp only[x',r_]at hlen;rw[rK];exact(N1 (by omega)).symm
    | cons a t N=>
     cases hwi with
     |nil=>
      simp only[x',r_]at hlen;rw[rL];exact(Ot (by omega)).symm
     |cons c u hw=>
      rw[z3]at hz;cases hz
   rw[N]at hR
   wp_walk
   exact⟨_,rfl,by simpa [Builtin.Tuple.tupleCompareSizes]using hR⟩
  case h=>
   exact⟨rfl,rfl,items.toList,Z.toList,ns,W,rfl,P,O,by omega,h⟩
end
section
variable {prog:dV}{w:d_}{A:f_}{E:a_->cn->Prop}{s:cn}
theorem lt_tupInts{l b:b'}{items Z:Array a_}{ns Y:List Int}{Q:a_->cn->Prop}(L:SD s.heap l items)(I:SD s.heap b Z)(H:ma items.toList ns)(J:ma Z.toList Y)
  (N:A.units<xy) (h:Q (.bool (lexLt ns Y)) s):ed (er prog w) A (hh .Lt (.ref l) (.ref b)) Q E s:=by
 obtain⟨⟨cls,dd,data,O⟩,R,S,n,hd⟩:=id L;obtain⟨⟨P,U,data2,T⟩,W,X,K,hd2⟩:=id I;simp only at S hd X hd2;subst S hd X hd2;exact richCompare_meets_room (op:=.Lt) ⟨_,R,rfl⟩ ⟨_,W,rfl⟩ PySem.F.slot_tuple_lt PySem.F.entry_tuple_lt (PySem.F.args_tuple_lt_2 _ _) (tN l b items Z n K dd U O T ns Y H J)
  ⟨R,W,show u4 (lexLt ns Y)≠Value.notImplemented/\Q (.bool (lexLt ns Y)) s from⟨(λx=>nomatch x),h⟩⟩ N
theorem cat_tup{t b:b'}{vs Z:List a_}{Q:a_->cn->Prop}(J:SD s.heap t vs.toArray)(H:SD s.heap b Z.toArray)(N:vs≠[])
  (K:Z=[]->Q (.ref t) s) (I:Z≠[]->Q (.ref s.heap.objs.size) {s with heap:=s.heap.push {cls:=.type "tuple",data:=.seq (vs++Z).toArray}})
  (S:vs.length+Z.length<=sizeLine):ed (er prog w) A (q_ .Add (.ref t) (.ref b)) Q E s:=by
 obtain⟨⟨cls,dd,data,P⟩,T,R,n,hd⟩:=id J;obtain⟨⟨O,X,data2,U⟩,Y,W,L,hd2⟩:=id H;simp only at R hd W hd2;subst R hd W hd2;have e:vs.toArray++Z.toArray=(vs++Z).toArray:=by simp
 by_cases hw:Z=[]
 ·exact RS ⟨_,T,rfl⟩ ⟨_,Y,rfl⟩ Rq RJ Qv Qn (Qk _ _)
   (tuple_addW1 t b vs.toArray Z.toArray n L dd X P U (by simpa using N) (by simp[hw])) ⟨T,Y,K hw⟩
 ·refine RS ⟨_,T,rfl⟩ ⟨_,Y,rfl⟩ Rq RJ Qv Qn (Qk _ _)
   (tuple_addW2 t b vs.toArray Z.toArray n L dd X P U (by simpa using N) (by simpa using hw) (by rw[N5,N5];exact S)) ⟨T,Y,?_⟩
  rw[e];exact I hw
def sIx(n d:Nat):Option Int->Nat
 |none=>d
 |some v=>if v<0 then (v+(n:Int)).toNat else min v.toNat n
theorem sIx_none(n d:Nat):sIx n d none=d:=rfl
theorem sIx_nat(n d k:Nat):sIx n d (ar (k:Int))=min k n:=by show(if (k:Int)<0 then ((k:Int)+(n:Int)).toNat else min (k:Int).toNat n)=min k n;rw[if_neg (by omega),OS]
theorem IG(n d:Nat)(Z:d<=n)(o:Option Int):sIx n d o<=n:=by
 cases o with
 |none=>exact Z
 |some v=>
  show(if v<0 then (v+(n:Int)).toNat else min v.toNat n)<=n;by_cases hv:v<0
  ·rw[if_pos hv];omega
  ·rw[if_neg hv];exact Nat.min_le_right _ _
theorem AA(v:Int)(n d:Nat):(if v<0 then max (v+(n:Int)) 0 else min v (n:Int))=((sIx n d (ar v):Nat):Int):=by
 show(if v<0 then max (v+(n:Int)) 0 else min v (n:Int))=(((if v<0 then (v+(n:Int)).toNat else min v.toNat n):Nat):Int);by_cases hv:v<0
 ·simp only[if_pos hv];omega
 ·simp only[if_neg hv];omega
theorem yY(Y Z:Option Int)(n:Nat):t_ Y Z 1 (n:Int)=(((sIx n 0 Y:Nat):Int),((sIx n n Z:Nat):Int)):=by
 have X:¬ ((1:Int)<0):=by omega
 unfold t_;simp only[X,if_false];refine QF ?_ ?_
 ·cases Y with
  |none=>rfl
  |some v=>exact AA v n 0
 ·cases Z with
  |none=>rfl
  |some v=>exact AA v n n
theorem yZ(i j:Nat):m_ (i:Int) (j:Int) 1=j - i:=by
 unfold m_;have Z:(1:Int)>0:=by omega
 simp only[Z,if_true,Int.ediv_one];split<;>omega
theorem rM{v:a_}{o:Option Int}{Q:Option Int->cn->Prop}(p:RO v o)(h:Q o s):ed (er prog w) A (Builtin.Slice.slicePartIndex v) Q E s:=by
 cases p with
 |none=>exact slicePart_none h
 |int i t=>exact slicePart_int h
theorem sliceApplied_gen{S:b'}{T U:a_}{Z X:Option Int}{n:Nat}{Q:Int×Int×Nat->cn->Prop}(hs:s.heap.IsSliceOf S T U .none)(O:RO T Z)(P:RO U X)
  (h:Q (((sIx n 0 Z:Nat):Int),1,sIx n n X - sIx n 0 Z) s):ed (er prog w) A (Builtin.Slice.sliceApplied (.ref S) (aC (n:Int))) Q E s:=by
 obtain⟨os,W,R,Y⟩:=id hs;unfold Builtin.Slice.sliceApplied Builtin.Slice.sliceFields;refine NN (NN (OL W Y (x:=T) rfl (NN (OL W Y (x:=U) rfl (NN (OL W Y (x:=.none) rfl (NT ?_)))))));refine NN (slicePart_none ?_);show ed _ _ (if ((1:Int)==0)=b_ then _ else _) _ _ s;rw[if_neg (by decide)];refine NN (rM O (NN (rM P (NN (NT ?_)))));show ed _ _ (match t_ Z X 1 (n:Int)with|(Z,X)=>aC (Z,(1:Int),m_ Z X 1)) _ _ s;rw[yY Z X n];show ed _ _ (aC (((sIx n 0 Z:Nat):Int),(1:Int),m_ ((sIx n 0 Z:Nat):Int) ((sIx n n X:Nat):Int) 1)) _ _ s;rw[yZ];exact NT h
theorem Dc(xs:Array a_)(i k:Nat):((dq k).filterMap λ(m:Nat)=>xs[((i:Int)+(m:Int)*1).toNat]?).toArray=((xs.toList.drop i).take k).toArray:=by
 have e:(λ(m:Nat)=>xs[((i:Int)+(m:Int)*1).toNat]?)=λm=>xs[i+m]? :=by
  funext m;have:((i:Int)+(m:Int)*1).toNat=i+m:=by omega
  rw[this]
 rw[e];have:=pick_run xs i k;rw[List.filterMap_map]at this;have e2:((λx=>xs[x]?)∘λx=>i+x)=λm=>xs[i+m]? :=rfl;rw[e2]at this;rw[this]
theorem getItem_tuple_cut{t R:b'}{items:Array a_}{N O:a_}{Y X:Option Int}{Q:a_->cn->Prop}(W:SD s.heap t items)(hs:s.heap.IsSliceOf R N O .none)(I:RO N Y)(J:RO O X)
  (L:¬ (sIx items.size 0 Y=0/\sIx items.size items.size X=items.size))
  (h:Q (.ref s.heap.objs.size) {s with heap:=s.heap.push {cls:=.type "tuple",data:=.seq ((items.toList.drop (sIx items.size 0 Y)).take (sIx items.size items.size X - sIx items.size 0 Y)).toArray}})
  (H:items.size<=sizeLine):ed (er prog w) A (RT (.ref t) (.ref R)) Q E s:=by
 have Z:sizeOk (.seq ((items.toList.drop (sIx items.size 0 Y)).take (sIx items.size items.size X - sIx items.size 0 Y)).toArray):=by show((items.toList.drop (sIx items.size 0 Y)).take (sIx items.size items.size X - sIx items.size 0 Y)).toArray.size<=sizeLine;rw[N5,OO,Qa,QS];omega
 have C:sIx items.size items.size X<=items.size:=IG _ _ (NQ _) X;obtain⟨os,U,T,K⟩:=id hs;have S:s.TypeIs (.ref R) "slice":=⟨os,U,T⟩;unfold RT
 try with_reducible refine O5 ?_
 first|refine NN (NT ?_)|skip
 refine NN (wpAny_sequenceKey W.typeIs (by decide) ?_);refine NN (wpAny_callSpecial?_slot (name:=g_ "__getitem__") W.typeIs Pa
  (O8 Pa W.typeIs entry_tuple_getitem ?_ (args_tuple_getitem _ _)))
 show ed _ _ (Builtin.Tuple.tupleItemsOf (.ref t)>>=_) _ _ s;refine NN (tupleItemsOf_ W ?_);refine NN (Rx S ?_);rw[if_pos (by decide)];refine NN (sliceApplied_gen hs I J ?_);have P:¬ ((((sIx items.size 0 Y:Nat):Int)==0 && (1:Int)==1 && (sIx items.size items.size X - sIx items.size 0 Y)==items.size)=b_):=by intro q;rw[OA,OA]at q;have G:((sIx items.size 0 Y:Nat):Int)=0:=R8 q.1.1;have F:sIx items.size items.size X - sIx items.size 0 Y=items.size:=R8 q.2;exact L ⟨by omega,by omega⟩
 show ed _ _ (if (((sIx items.size 0 Y:Nat):Int)==0 && (1:Int)==1 && (sIx items.size items.size X - sIx items.size 0 Y)==items.size)=b_ then _ else _) _ _ s;rw[if_neg P,Dc];first
  |exact NN (m:=o_ _) (OQ (NT ⟨_,rfl,NT h⟩) Z)
  |exact NN (m:=o_ _) (OQ (NN (NT (NT ⟨_,rfl,NT h⟩))) Z)
  |exact NN (NN (m:=o_ _) (OQ (NT (NT ⟨_,rfl,NT h⟩)) Z))
  |exact NN (NN (m:=o_ _) (OQ (NT ⟨_,rfl,NT h⟩) Z))
end
end HT
namespace L2
open PySem PySem.Spec PyProof.Rows
abbrev TO:=St->Hp->(Option Int->Hp->Prop)->Prop
def PO(X:Cx)(e:Option Expr)(t:TO):Prop:=
 ∀(pins:List (b'×Obj)) (s:cn) (σ:St) (H:Hp) (Q:Option Int->Hp->Prop),Inv X pins σ H s->t σ H Q->
  ed (er X.prog X.w) X.A (evalPart e X.env) (λu s'=>∃o H',Inv X pins σ H' s'/\RO u o/\Q o H') X.xe s
def F3:TO:=λ_ H Q=>Q none H
def KJ(t:TE):TO:=λσ H Q=>t σ H λx H1=>∃i,x= .int i/\Q (ar i) H1
theorem QQ{ns:List Int}:∀{us:List a_},bJ (ns.map V.int) us->ma us ns:=by
 induction ns with
 |nil=>intro us r;rw[Pl]at r;cases r;exact .nil
 | cons n ns ih=>
  intro us r;rw[On]at r;cases r with
  |cons r1 r2=>
   obtain⟨t,e⟩:=r1;subst e;exact .cons n t (ih r2)
section
variable {X:Cx}{e:Expr}{te:TE}{lo hi:Option Expr}{tl th:TO}{pos p2:Pos}
theorem F4:PO X none F3:=by intro pins s σ H Q I h;rw[evalPart_none];exact NT ⟨none,H,I,.none,h⟩
theorem F5(h:PE X e te):PO X (ar e) (KJ te):=by intro pins s σ H Q I hw;rw[evalPart_some];refine eM (h pins s σ H _ I hw) λu s1 ⟨x,H1,I1,r1,q1⟩=>?_;obtain⟨i,rfl,q⟩:=q1;obtain⟨t,rfl⟩:=r1;exact⟨ar i,H1,I1,.int i t,q⟩
def Hv(X:Cx)(r:V->Option Int->Option Int->Hp->VK->Prop):Prop:=
 ∀(pins:List (b'×Obj)) (s:cn) (σ:St) (H:Hp) (x:V) (v vl vu:a_) (lo hi:Option Int) (sl:b') (Q:VK),Inv X pins σ H s->RelV x v->s.heap.IsSliceOf sl vl vu .none->RO vl lo->RO vu hi->r x lo hi H Q->
  ∃T id,typeLookup (.type T) "__getitem__"=aC (ar (.builtin id))/\s.TypeIs v T/\ed (er X.prog X.w) X.A (RT v (.ref sl)) (EP X pins σ Q) X.xe s
theorem Hv.or{r T:V->Option Int->Option Int->Hp->VK->Prop}(h:Hv X r)(h':Hv X T):Hv X (λx lo hi H Q=>r x lo hi H Q\/T x lo hi H Q):=by
 intro pins s σ H x v U Y lo hi W Q I Z hs S pu q;rcases q with q|q
 ·exact h pins s σ H x v U Y lo hi W Q I Z hs S pu q
 ·exact h' pins s σ H x v U Y lo hi W Q I Z hs S pu q
def Nw(r:V->Option Int->Option Int->Hp->VK->Prop)(te:TE)(tl th:TO):TE:=λσ H Q=>te σ H λx H1=>tl σ H1 λl H2=>th σ H2 λu H3=>r x l u H3 Q
theorem Dd{r:V->Option Int->Option Int->Hp->VK->Prop}(P:Hv X r)(S:PE X e te)(R:PO X lo tl)(U:PO X hi th):PE X (.Subscript e (.Slice lo hi none p2) pos) (Nw r te tl th):=by intro pins s σ H Q I h;refine Subscript_ (eM (S pins s σ H _ I h) λv s1 ⟨x,H1,I1,r1,q1⟩=>?_);refine wpAny_Slice (eM (R pins s1 σ H1 _ I1 q1) λvl s2 ⟨l,H2,I2,pl,q2⟩=>eM (U pins s2 σ H2 _ I2 q2) λvu s3 ⟨u,H3,I3,pu,q3⟩=>?_);rw[evalPart_none];refine NT ?_;have Z:Inv X pins σ H3 {s3 with heap:=s3.heap.push {cls:=.type "slice",data:=.fields #[vl,vu,.none]}}:=I3.kept (t':=s3.toks) λb N q=>NO _ q;obtain⟨T,id,Y,W,O⟩:=P pins {s3 with heap:=s3.heap.push {cls:=.type "slice",data:=.fields #[vl,vu,.none]}} σ H3 x v vl vu l u s3.heap.objs.size Q Z r1 (Heap.IsSliceOf.new ..) pl pu q3;show ed (er X.prog X.w) X.A (subscriptTail e (.Slice lo hi none p2) v (.ref s3.heap.objs.size)) (EP X pins σ Q) X.xe {s3 with heap:=s3.heap.push {cls:=.type "slice",data:=.fields #[vl,vu,.none]}};exact tail_any (ops:=[.ref s3.heap.objs.size,v]) W Y O (by with_unfolding_all rfl)
def tO(xs:List V)(lo hi:Option Int):List V:=(xs.drop (HT.sIx xs.length 0 lo)).take (HT.sIx xs.length xs.length hi - HT.sIx xs.length 0 lo)
theorem qw(xs:List V)(lo hi:Option Int):(tO xs lo hi).length<=xs.length:=by unfold tO;rw[OO,Qa];omega
def ME(K:cC):V->Option Int->Option Int->Hp->VK->Prop:=λx lo hi H Q=>∃a xs,x= .ref a/\mR K H a xs/\
 ¬ (HT.sIx xs.length 0 lo=0/\HT.sIx xs.length xs.length hi=xs.length)/\∀p,H p=none->Q (.ref p) (upd H p (.tup (tO xs lo hi)))
theorem IH:Hv X (ME X.K):=by
 intro pins s σ H x v O S lo hi R Q I W hs T pu h;obtain⟨a,xs,rfl,U,hw,q⟩:=h;cases W;obtain⟨its,r,Z,Y⟩:=I.tuple U;have hlen:its.toArray.size=xs.length:=by rw[N5];exact r.length.symm
 refine⟨"tuple",_,PyProof.Rows.slot_tuple_getitem.lookup,Z.typeIs,?_⟩;refine HT.getItem_tuple_cut Z hs T pu (by rw[hlen];exact hw) ?_ (by rw[hlen];exact Y);rw[hlen];refine⟨.ref s.heap.objs.size,_,I.laid (t':=s.toks) (o:=.tup (tO xs lo hi)) (λb P q=>NO _ q) (NQ _) ?_,rfl,q _ (I.hok.fresh (NQ _))⟩;exact⟨u9 (NZ (qw xs lo hi) Y),_,(r.drop (HT.sIx xs.length 0 lo)).take (HT.sIx xs.length xs.length hi - HT.sIx xs.length 0 lo),R6 _ _⟩
def KL(K:cC):R2:=λx y H Q=>∃a b ns ms,x= .ref a/\y= .ref b/\mR K H a (ns.map V.int)/\mR K H b (ms.map V.int)/\Q (.bl (HT.lexLt ns ms)) H
theorem y0(S:X.A.units<xy):j5 X (hh .Lt) (KL X.K):=by intro pins s σ H x y v u Q I U N h;obtain⟨a,b,ns,ms,rfl,rfl,Y,R,q⟩:=h;cases U;cases N;obtain⟨its,L,P,_⟩:=I.tuple Y;obtain⟨Z,T,p2,_⟩:=I.tuple R;have O:ma its.toArray.toList ns:=QQ L;have W:ma Z.toArray.toList ms:=QQ T;exact HT.lt_tupInts P p2 O W S ⟨.bl (HT.lexLt ns ms),H,I,rfl,q⟩
def KN(K:cC):R2:=λx y H Q=>∃a b xs ys,x= .ref a/\y= .ref b/\mR K H a xs/\mR K H b ys/\xs≠[]/\xs.length+ys.length<=sizeLine/\
 (ys=[]->Q (.ref a) H)/\(ys≠[]->∀p,H p=none->Q (.ref p) (upd H p (.tup (xs++ys))))
theorem bJ.nil_iff{xs:List V}{us:List a_}(r:bJ xs us):us=[]↔xs=[]:=by
 cases r with
 |nil=>simp
 |cons _ _=>simp
theorem F6:j5 X (q_ .Add) (KN X.K):=by intro pins s σ H x y v u Q I R J h;obtain⟨a,b,xs,ys,rfl,rfl,S,O,P,U,T,N⟩:=h;cases R;cases J;obtain⟨its,Y,L,_⟩:=I.tuple S;obtain⟨W,Z,p2,_⟩:=I.tuple O;refine HT.cat_tup L p2 (λz=>P (Y.nil_iff.mp z)) (λz=>⟨.ref a,H,I,rfl,T (Z.nil_iff.mp z)⟩) (λz=>?_) (by rw[<-Y.length, <-Z.length];exact U);refine⟨.ref s.heap.objs.size,_,I.laid (t':=s.toks) (o:=.tup (xs++ys)) (λb G q=>NO _ q) (NQ _) ?_,rfl,N (λw=>z (Z.nil_iff.mpr w)) _ (I.hok.fresh (NQ _))⟩;exact⟨u9 (by rw[NP];exact U),_,Y.append Z,R6 _ _⟩
end
def yM(n:Nat)(i:Int):Option Nat:=if 0<=i then (if i<n then ar i.toNat else none)else if -(n:Int)<=i then ar (i+n).toNat else none
def kJ{α:Type}(xs:List α)(i:Int):Option α:=(yM xs.length i).bind λj=>xs[j]?
theorem AB{n:Nat}{i:Int}{j:Nat}(h:yM n i=ar j):R9 i n=ar j/\j<n/\ -(n:Int)<=i/\i<n:=by
 unfold yM at h;by_cases h0:0<=i
 ·rw[if_pos h0]at h;by_cases h1:i<n
  ·rw[if_pos h1]at h;have e:i.toNat=j:=Oj h;exact⟨by rw[Sh h0 h1,e],by omega,by omega,h1⟩
  ·rw[if_neg h1]at h;cases h
 ·rw[if_neg h0]at h;by_cases h1: -(n:Int)<=i
  ·rw[if_pos h1]at h;have e:(i+n).toNat=j:=Oj h;exact⟨by rw[seqIndex_neg (by omega) h1,e],by omega,h1,by omega⟩
  ·rw[if_neg h1]at h;cases h
theorem vc{α:Type}{xs:List α}{i:Int}{v:α}(h:kJ xs i=ar v):∃j,R9 i xs.length=ar j/\xs[j]? =ar v/\j<xs.length/\ -(xs.length:Int)<=i/\i<xs.length:=by
 unfold kJ at h;cases e:yM xs.length i with
 |none=>rw[e]at h;cases h
 |some j=>
  rw[e]at h;obtain⟨Y,W,Z,X⟩:=AB e;exact⟨j,Y,h,W,Z,X⟩
def vd(b:Expr):Prop:=∀o i,subscripted b c_ o i=operate [o,i] (RT o i)
def Fz(X:Cx)(r:R2):Prop:=
 ∀(value slice:Expr) (pins:List (b'×Obj)) (s:cn) (σ:St) (H:Hp) (x y:V) (v u:a_) (Q:VK),Inv X pins σ H s->RelV x v->RelV y u->r x y H Q->
  subscripted slice c_ v u=operate [v,u] (RT v u)->ed (er X.prog X.w) X.A (subscriptTail value slice v u) (EP X pins σ Q) X.xe s
def LQ(X:Cx)(id:String)(r:V->List V->Hp->VK->Prop):Prop:=
 ∀(pins:List (b'×Obj)) (s:cn) (σ:St) (H:Hp) (x:V) (xs:List V) (v:a_) (us:List a_) (Q:VK),Inv X pins σ H s->RelV x v->bJ xs us->r x xs H Q->
  ed (er X.prog X.w) X.A (call (.builtin id) (v::us)) (EP X pins σ Q) X.xe s
section
variable {X:Cx}{a b:Expr}{ta tb:TE}{pos:Pos}
theorem Fz.or{r W:R2}(h:Fz X r)(h':Fz X W):Fz X (λx y H Q=>r x y H Q\/W x y H Q):=by
 intro value slice pins s σ H x y v u Q I Z Y q hs;rcases q with q|q
 ·exact h value slice pins s σ H x y v u Q I Z Y q hs
 ·exact h' value slice pins s σ H x y v u Q I Z Y q hs
theorem KO{r:R2}(T:Fz X r)(Y:PE X a ta)(S:PE X b tb)(hs:vd b):PE X (.Subscript a b pos) (Kx r ta tb):=by intro pins s σ H Q I h;exact Subscript_ (Iu Y S I h λv u s2 x y Z U W R q=>T a b pins s2 σ Z x y v u Q U W R q (hs _ _))
def KP(K:cC):R2:=λx y H Q=>∃p xs i v,x= .ref p/\y= .int i/\lQ K H p xs/\kJ xs i=ar v/\Q v H
def KQ(K:cC):R2:=λx y H Q=>∃p xs i v,x= .ref p/\y= .int i/\mR K H p xs/\kJ xs i=ar v/\Q v H
def KR:R2:=λx y H Q=>∃z i c,x= .str z/\y= .int i/\z.length<=sizeLine/\kJ z.cps.toList i=ar c/\Q (.str ⟨#[c]⟩) H
theorem F7:Fz X (KP X.K):=by
 intro value slice pins s σ H x y v u Q I S J h hs;obtain⟨p,xs,i,z,rfl,rfl,N,he,q⟩:=h;cases S;obtain⟨t,rfl⟩:=J;obtain⟨its,r,U,E⟩:=I.list N;obtain⟨j,Z,P,F,L,R⟩:=vc he;obtain⟨w,T,Y⟩:=r.get P;have O:=r.length;have G:=pE;have fin:EP X pins σ Q w s:=⟨z,H,I,Y,q⟩;by_cases h0:0<=i
 ·have W:i.toNat=j:=by
   rw[Sh h0 R]at Z;exact Oj Z
  exact item_listR U.isList h0 (by omega) (by rw[W];simpa using T) fin hs
 ·have W:(i+(its.toArray.size:Int)).toNat=j:=by
   rw[seqIndex_neg (by omega) L]at Z;rw[N5, <-O];exact Oj Z
  exact subscriptTail_builtinR (x:=w) U.isList.typeIs slot_list_getitem.lookup
   (wpAny_getItem_list_neg (Q:=λr s'=>r=w/\EP X pins σ Q r s') U.isList (by omega) (by rw[N5]<;>omega) (by omega) (by rw[W];simpa using T) ⟨rfl,fin⟩) hs
theorem II:Fz X (KQ X.K):=by
 intro value slice pins s σ H x y v u Q I W O h hs;obtain⟨p,xs,i,z,rfl,rfl,P,he,q⟩:=h;cases W;obtain⟨t,rfl⟩:=O;obtain⟨its,r,Y,F⟩:=I.tuple P;obtain⟨j,U,S,J,G,L⟩:=vc he;obtain⟨w,T,Z⟩:=r.get S;have R:=r.length;have N:=pE;have fin:EP X pins σ Q w s:=⟨z,H,I,Z,q⟩;exact subscriptTail_builtinR (x:=w) Y.typeIs slot_tuple_getitem.lookup
  (getItem_tuple (j:=j) (Q:=λr s'=>r=w/\EP X pins σ Q r s') Y (by omega) (by omega) (by rw[N5, <-R];exact U) (by simpa using T) ⟨rfl,fin⟩) hs
theorem IJ:Fz X KR:=by
 intro value slice pins s σ H x y v u Q I Y R h hs;obtain⟨z,i,c,rfl,rfl,N,he,q⟩:=h;obtain⟨t,rfl⟩:=Y;obtain⟨t',rfl⟩:=R;obtain⟨j,Z,W,O,S,T⟩:=vc he;have U:z.cps.toList.length=z.length:=by simp[Str.length]
 rw[U]at Z S T;have P:=pE;exact tail_any (typeIs_str s z t) slot_str_getitem.lookup (getItem_str (c:=c) (by have e1:decide (i< -(2 ^ 63:Int))=false:=Ot (by omega);have e2:decide (i ≥ 2 ^ 63)=false:=Ot (by omega);rw[e1,e2,Bool.or_false]) (by rw[Z];simpa using W) ⟨.str ⟨#[c]⟩,H,I.tok _,⟨_,rfl⟩,q⟩) hs
def Nd(K:cC):R2:=λx y H Q=>KP K x y H Q\/KQ K x y H Q\/KR x y H Q
theorem IK:Fz X (Nd X.K):=F7.or (II.or IJ)
theorem y8(its:List a_)(n j:Nat)(u:a_):pe (·.setIfInBounds j u) {cls:=.type "list",data:=.seq its.toArray n}={cls:=.type "list",data:=.seq (its.set j u).toArray n}:=by simp[pe]
theorem Inv.lst{Z:List (b'×Obj)}{Y:St}{H:Hp}{s:cn}{p:b'}{xs:List V}(I:Inv X Z Y H s)(h:H p=ar (.lst xs)):
  ∃(its:List a_) (n:Nat),bJ xs its/\s.heap.get? p=ar {cls:=.type "list",data:=.seq its.toArray n}/\xs.length<=sizeLine:=by
 obtain⟨z,its,n,r,e⟩:=I.hok p _ h;exact⟨its,n,r,e,z⟩
theorem Inv.lstUpd{Z:List (b'×Obj)}{U:St}{H:Hp}{s:cn}{p:b'}{xs ys:List V}{its its':List a_}{n Y:Nat}{f:Obj->Obj}(I:Inv X Z U H s)(h:H p=ar (.lst xs))
  (T:s.heap.get? p=ar {cls:=.type "list",data:=.seq its.toArray n}) (W:f {cls:=.type "list",data:=.seq its.toArray n}={cls:=.type "list",data:=.seq its'.toArray Y}) (r:bJ ys its') (R:ys.length<=sizeLine) (t:Nat):
  Inv X Z U (upd H p (.lst ys)) {s with heap:=s.heap.update p f,toks:=t}:=by
 have e:(s.heap.update p f).get? p=ar {cls:=.type "list",data:=.seq its'.toArray Y}:=by rw[Pu f T (by rw[W]<;>rfl),W]
 refine I.write (x:=p) (e:=p) (by rw[h];trivial) (.inl rfl) (λb u S q=>(OI _ _ (lx S)).trans q) ⟨_,e⟩ ?_;exact⟨R,its',Y,r,e⟩
def Hw:V->V->V->Hp->(Hp->Prop)->Prop:=λo i v H Q=>∃p xs k j,o= .ref p/\i= .int k/\H p=ar (.lst xs)/\yM xs.length k=ar j/\Q (upd H p (.lst (xs.set j v)))
theorem set_list:Kr X Hw:=by
 intro pins s σ H o i v E C u Q I J N L h;obtain⟨p,xs,k,j,rfl,rfl,R,K,q⟩:=h;cases J;obtain⟨t,rfl⟩:=N;obtain⟨its,n,r,U,G⟩:=I.lst R;obtain⟨Z,B,P,O⟩:=AB K;have Y:=r.length;have F:=pE;have S:Inv X pins σ (upd H p (.lst (xs.set j v))) {s with heap:=s.heap.update p (pe (·.setIfInBounds j u))}:=
  I.lstUpd R U (y8 its n j u) (r.set L j) (by rw[Ry];exact G) s.toks
 by_cases h0:0<=k
 ·have T:k.toNat=j:=by
   rw[Sh h0 O]at Z;exact Oj Z
  exact W.ki_setAt U h0 (by omega) (by rw[N5, <-Y];exact O) (by rw[T];exact⟨_,S,q⟩)
 ·have T:(k+(its.toArray.size:Int)).toNat=j:=by
   rw[seqIndex_neg (by omega) P]at Z;rw[N5, <-Y];exact Oj Z
  exact W.ki_setBack U (by omega) (by rw[N5, <-Y];exact P) (by omega) (by rw[T];exact⟨_,S,q⟩)
theorem vf(Y Z:Option Int)(n:Nat):(vn Y Z none n).1=((HT.sIx n 0 Y:Nat):Int)/\(vn Y Z none n).2.1=((HT.sIx n n Z:Nat):Int)/\(vn Y Z none n).2.2=1:=by
 refine⟨?_,?_,rfl⟩
 ·cases Y with
  |none=>simp[vn,HT.sIx]
  |some i=>
   simp only[vn,HT.sIx,Option.getD_none,show(1:Int)>0 by decide,if_true];by_cases h:i<0
   ·simp only[h,if_true]<;>omega
   ·simp only[h,if_false]<;>omega
 ·cases Z with
  |none=>simp[vn,HT.sIx]
  |some i=>
   simp only[vn,HT.sIx,Option.getD_none,show(1:Int)>0 by decide,if_true];by_cases h:i<0
   ·simp only[h,if_true]<;>omega
   ·simp only[h,if_false]<;>omega
theorem tP(its:List a_)(Z Y:Option Int):slicePick its.toArray Z Y none=((its.drop (HT.sIx its.length 0 Z)).take (HT.sIx its.length its.length Y - HT.sIx its.length 0 Z)).toArray:=by obtain⟨W,T,U⟩:=vf Z Y its.toArray.size;unfold slicePick;rw[W,T,U];simp only[sliceRange_one,pick_run,km]<;>rfl
def MF(K:cC):V->Option Int->Option Int->Hp->VK->Prop:=λx lo hi H Q=>∃a xs,x= .ref a/\lQ K H a xs/\∀p,H p=none->Q (.ref p) (upd H p (.lst (tO xs lo hi)))
theorem F8:Hv X (MF X.K):=by intro pins s σ H x v N R lo Z P Q I W hs T pu h;obtain⟨a,xs,rfl,U,q⟩:=h;cases W;obtain⟨its,r,Y,S⟩:=I.list U;have hlen:=r.length;refine⟨"list",_,slot_list_getitem.lookup,Y.isList.typeIs,?_⟩;refine wpAny_getItem_list_slice Y.isList hs T pu .none (by simp) ?_ (by rw[N5]<;>omega);rw[tP, <-hlen];refine⟨.ref s.heap.objs.size,_,I.laid (t':=s.toks) (o:=.lst (tO xs lo Z)) (λb O q=>NO _ q) (NQ _) ?_,rfl,q _ (I.hok.fresh (NQ _))⟩;exact⟨NZ (qw xs lo Z) S,_,0,(r.drop (HT.sIx xs.length 0 lo)).take (HT.sIx xs.length xs.length Z - HT.sIx xs.length 0 lo),N4 _ rfl⟩
theorem vg:d8 X (.builtin "len") (λxs H Q=>∃p ys,xs=[.ref p]/\(lQ X.K H p ys\/mR X.K H p ys)/\Q (.int ys.length) H):=by
 intro pins s σ H xs us Q I r h;obtain⟨p,ys,rfl,Z,q⟩:=h;obtain⟨u,rfl,U⟩:=vals1 r;cases U;have S:=pE;rcases Z with Z|Z
 ·obtain⟨its,Y,W,T⟩:=I.list Z;have hlen:=Y.length;exact Calls.call_len_list W.isList (by simp only[km]<;>omega) ⟨.int ys.length,H,I.tok _,⟨s.toks+1,by rw[N5,hlen]⟩,q⟩
 ·obtain⟨its,Y,W,T⟩:=I.tuple Z;have hlen:=Y.length;exact len_tuple W (by simp only[km]<;>omega) ⟨.int ys.length,H,I.tok _,⟨s.toks+1,by rw[N5,hlen]⟩,q⟩
theorem d8.or{f:a_}{r Z:List V->Hp->VK->Prop}(h:d8 X f r)(h':d8 X f Z):d8 X f (λxs H Q=>r xs H Q\/Z xs H Q):=by
 intro pins s σ H xs us Q I rs q;rcases q with q|q
 ·exact h pins s σ H xs us Q I rs q
 ·exact h' pins s σ H xs us Q I rs q
theorem vh:d8 X (.type "list") (λxs H Q=>∃p ys,xs=[.ref p]/\(lQ X.K H p ys\/mR X.K H p ys)/\∀l,H l=none->Q (.ref l) (upd H l (.lst ys))):=by
 intro pins s σ H xs us Q I r h;obtain⟨p,ys,rfl,U,q⟩:=h;obtain⟨u,rfl,O⟩:=vals1 r;cases O;have fin:∀(its:List a_),bJ ys its->ys.length<=sizeLine->∀(h':eg) (Z:Nat),(∀b o',s.heap.get? b=ar o'->h'.get? b=ar o')->
   h'.get? s.heap.objs.size=ar {cls:=.type "list",dict:=none,data:=.seq its.toArray Z,slots:= #[]}->EP X pins σ Q (.ref s.heap.objs.size) {s with heap:=h'}:=λits Y T h' Z W e=>
  ⟨.ref s.heap.objs.size,_,I.laid (t':=s.toks) W (NQ _) (show cy X.prog X.w _ h' _ (.lst ys)from⟨T,its,Z,Y,e⟩),rfl,q _ (I.hok.fresh (NQ _))⟩
 rcases U with U|U
 ·obtain⟨its,Y,P,T⟩:=I.list U;have hlen:=Y.length;obtain⟨o,R,S,n,hd⟩:=P.isList;exact call_list_seq p (.inl rfl) R S hd (λh' Z W e=>fin its Y T h' Z W e) (by simp only[km]<;>omega)
 ·obtain⟨its,Y,P,T⟩:=I.tuple U;have hlen:=Y.length;obtain⟨o,R,S,n,hd⟩:=P;exact call_list_seq p (.inr rfl) R S hd (λh' Z W e=>fin its Y T h' Z W e) (by simp only[km]<;>omega)
theorem tQ:d8 X (.type "tuple") (λxs H Q=>∃p ys,xs=[.ref p]/\((lQ X.K H p ys/\∀l,H l=none->Q (.ref l) (upd H l (.tup ys)))\/(mR X.K H p ys/\Q (.ref p) H))):=by
 intro pins s σ H xs us Q I r h;obtain⟨p,ys,rfl,h⟩:=h;obtain⟨u,rfl,T⟩:=vals1 r;cases T;rcases h with⟨hq,q⟩|⟨hq,q⟩
 ·obtain⟨its,Z,Y,W⟩:=I.list hq;have hlen:=Z.length;refine call_tuple_list Y.isList (λh' S=>?_) (by simp only[km]<;>omega);have U:Inv X pins σ H {s with heap:=h'}:=I.kept (t':=s.toks) S;have R:Inv X pins σ (upd H h'.objs.size (.tup ys)) {s with heap:=h'.push {cls:=.type "tuple",data:=.seq its.toArray}}:=
   U.laid (t':=s.toks) (λb o e=>NO _ e) (NQ _) (show cy X.prog X.w _ _ _ (.tup ys)from⟨u9 W,its,Z,R6 _ _⟩)
  exact⟨.ref h'.objs.size,_,R,rfl,q _ (U.hok.fresh (NQ _))⟩
 ·obtain⟨its,Z,Y,W⟩:=I.tuple hq;exact call_tuple_same Y ⟨.ref p,H,I,rfl,q⟩
def MG(K:cC)(T:String)(x:V)(H:Hp):Prop:=match x with
 | .str _=>T="str"
 | .int _=>T="int"
 | .ref p=>(T="list"/\∃xs,lQ K H p xs)\/(T="tuple"/\∃xs,H p=ar (.tup xs))\/
   (T="dict"/\((∃kvs,H p=ar (.dK kvs))\/∃kvs,H p=ar (.dT kvs)))\/(T="set"/\∃S n,H p=ar (.set S n))
 |_=>False
theorem IL{Z:List (b'×Obj)}{U:St}{H:Hp}{s:cn}{T:String}{x:V}{v:a_}(I:Inv X Z U H s)(r:RelV x v)(Y:MG X.K T x H):
  s.TypeIs v T/\∀a,v= .ref a->∃ob,s.heap.get? a=ar ob/\ob.dict=none:=by
 cases x with
 |str z=>
  obtain⟨t,rfl⟩:=r;cases (show T="str" from Y);exact⟨typeIs_str s z t,λ_ e=>nomatch e⟩
 |int i=>
  obtain⟨t,rfl⟩:=r;cases (show T="int" from Y);exact⟨typeIs_int s i t,λ_ e=>nomatch e⟩
 | ref p=>
  cases r;rcases Y with⟨rfl,xs,hq⟩|⟨rfl,xs,hk⟩|⟨rfl,hk⟩|⟨rfl,S,n,hk⟩
  ·obtain⟨its,_,W,_⟩:=I.list hq;refine⟨W.isList.typeIs,λa e=>?_⟩;cases e;obtain⟨o,n,e,c,hd,_⟩:=W;exact⟨o,e,hd⟩
  ·obtain⟨⟨_,o,e,hd⟩,its,_,pt⟩:=(show cy X.prog X.w H s.heap p (.tup xs)from I.hok p _ hk);refine⟨pt.typeIs,λa e2=>?_⟩;cases e2;exact⟨o,e,hd⟩
  ·have z:∃o,s.heap.get? p=ar o/\o.ExactDict:=by
    rcases hk with⟨kvs,hk⟩|⟨kvs,hk⟩
    ·obtain⟨_,_,_,_,o,_,_,e,ex,_⟩:=I.hok p _ hk;exact⟨o,e,ex⟩
    ·obtain⟨_,_,_,_,o,_,_,e,ex,_⟩:=I.hok p _ hk;exact⟨o,e,ex⟩
   obtain⟨o,e,ex⟩:=z;refine⟨⟨o,e,ex.1⟩,λa e2=>?_⟩;cases e2;exact⟨o,e,ex.2.1⟩
  ·obtain⟨o,_,_,_,e,ex,_⟩:=I.hok p _ hk;refine⟨⟨o,e,ex.1⟩,λa e2=>?_⟩;cases e2;exact⟨o,e,ex.2.1⟩
 |_=>exact ke Y
def Nx(K:cC)(T:String)(r:V->List V->Hp->VK->Prop)(to:TE)(t:TA):TE:=λσ H Q=>to σ H λx H1=>MG K T x H1/\t σ H1 λxs H2=>r x xs H2 Q
variable {o e:Expr}{es:List Expr}{to:TE}{t:TA}{name:Str}{apos cpos:Pos}{T id:String}{r:V->List V->Hp->VK->Prop}
theorem Hx(F:PlainAttrs T)(S:Slot T name id)(R:typeOf (.builtin id)=aC (.type "method_descriptor"))(G:LQ X id r)(J:PE X o to)(O:PA X (e::es) t)
  (Y:u0 o name X.env (hD o X.env)=hD o X.env:=by rfl)
  (U:((oo cpos (dt (e::es) X.env)).all (λx=> !x.1) && (backToKw cpos (keywordEach [] X.env)).all (λx=>x.1.isSome)
   && decide ((e::es).length+([]:List Sn).length+(if ([]:List Sn).isEmpty then 0 else 1)<30))=true:=by rfl)
  (W:(apos.endLine==cpos.line)=true:=by rfl) (hs:dt (e::es) X.env=(c_,hD e X.env)::dt es X.env:=by rfl) (Z:(oo cpos (dt es X.env)).any (·.1)=false:=by rfl):
  PE X (.Call (.Attribute o name apos) (e::es) [] cpos) (Nx X.K T r to t):=by
 intro pins s σ H Q I h;refine wpAny_Call_method_late Y U W rfl (eM (J pins s σ H _ I h) λv s1 ⟨x,H1,I1,r1,ty,q1⟩=>?_);obtain⟨N,L⟩:=IL I1 r1 ty;refine⟨T,id,F,S,R,N,L,?_⟩;have P:=O cpos pins s1 σ H1 _ I1 q1;rw[hs]at P⊢;refine Calls.callWith_builtin (by show(c_||(oo cpos (dt es X.env)).any (·.1))=c_;rw[Z]<;>rfl) (QL ?_);exact eM P λus s2 ⟨vs,H2,I2,r2,q2⟩=>G pins s2 σ H2 x vs v us Q I2 r1 r2 q2
end
def Nf(X:Cx)(id:String)(r:V->List V->Hp->VK->Prop):Prop:=
 ∀(pins:List (b'×Obj)) (s:cn) (σ:St) (H:Hp) (x:V) (xs:List V) (v:a_) (us:List a_) (Q:VK),Inv X pins σ H s->RelV x v->bJ xs us->r x xs H Q->
  ed (er X.prog X.w) X.A (call (.builtin id) (v::us)) (EP X pins σ Q) X.xe s
theorem bJ.one:∀{x:V} {us:List a_},bJ [x] us->∃u,us=[u]/\RelV x u
 |_,_,.cons r .nil=>⟨_,rfl,r⟩
theorem bJ.eraseIdx:∀{xs:List V} {us:List a_} (i:Nat),bJ xs us->bJ (xs.eraseIdx i) (us.eraseIdx i)
 |_,_,_,.nil=>.nil
 |_,_,0,.cons _ t=>t
 |_,_,i+1,.cons r t=>.cons r (bJ.eraseIdx i t)
theorem uo{α:Type}:∀(l:List α) (i:Nat),(l.eraseIdx i).length<=l.length
 |[],_=>NQ _
 |_::_,0=>P3 _
 |_::r,i+1=>PV (uo r i)
section
variable {X:Cx}{pins:List (b'×Obj)}{σ:St}{H:Hp}{s:cn}{l b:b'}{xs ys zs:List V}
theorem Inv.lset{its its':List a_}{n:Nat}{f:Array a_->Array a_}{t':Nat}(I:Inv X pins σ H s)(W:H l=ar (.lst xs))
  (e:s.heap.get? l=ar {cls:=.type "list",data:=.seq its.toArray n}) (U:f its.toArray=its'.toArray) (Z:bJ ys its') (T:ys.length<=sizeLine):
  Inv X pins σ (upd H l (.lst ys)) {s with heap:=s.heap.update l (pe f),toks:=t'}:=by
 have q:=PySem.IsL.update e f;rw[U]at q;refine I.write (x:=l) (e:=l) (by rw[W];exact trivial) (.inl rfl) (λR u Y S=>(OI s.heap (pe f) (lx Y)).trans S) ⟨_,q⟩ ?_;exact⟨T,its',_,Z,q⟩
theorem Inv.lnew{its:List a_}{t':Nat}(I:Inv X pins σ H s)(Z:bJ ys its)(Y:ys.length<=sizeLine):
  Inv X pins σ (upd H s.heap.objs.size (.lst ys)) {s with heap:=s.heap.push {cls:=.type "list",data:=.seq its.toArray},toks:=t'}:=
 I.laid (λ_ _ q=>NO _ q) (NQ _) ⟨Y,its,0,Z,N4 _ rfl⟩
theorem Inv.fresh(I:Inv X pins σ H s):H s.heap.objs.size=none:=I.hok.fresh (NQ _)
theorem Inv.lstM(I:Inv X pins σ H s)(Z:H l=ar (.lst xs)):xs.length<=sizeLine/\∃(its:List a_) (n:Nat),bJ xs its/\xs.length=its.length/\s.heap.get? l=ar {cls:=.type "list",data:=.seq its.toArray n}:=by obtain⟨z,its,n,r,e⟩:=I.hok l _ Z;exact⟨z,its,n,r,r.length,e⟩
theorem De{n:Nat}(h:n<=sizeLine):u2 n=false:=by unfold u2;exact Ot (by omega)
end
section
variable {X:Cx}
def AC:V->List V->Hp->VK->Prop:=λx vs H Q=>∃l xs y,x= .ref l/\vs=[y]/\H l=ar (.lst xs)/\xs.length<sizeLine/\Q .non (upd H l (.lst (xs++[y])))
theorem pH:Nf X "list.append" AC:=by intro pins s σ H x vs v us Q I Y U h;obtain⟨l,xs,y,rfl,rfl,Z,S,q⟩:=h;cases Y;obtain⟨u,rfl,W⟩:=U.one;obtain⟨z,its,n,r,T,e⟩:=I.lstM Z;refine RH F.slot_list_append ⟨_,e,rfl⟩ F.entry_list_append (F.args_list_append_2 _ _) (PySem.list_append l its.toArray n u (by rw[N5];omega)) ⟨e,?_⟩;refine⟨.non,_,I.lset (its':=its++[u]) Z e (by simp) (r.append (.cons W .nil)) ?_,rfl,q⟩;rw[NP,List.length_singleton];omega
def Df:V->List V->Hp->VK->Prop:=λx vs H Q=>∃l xs i k y,x= .ref l/\vs=[.int i]/\H l=ar (.lst xs)/\ -(2 ^ 63)<=i/\i<2 ^ 63/\R9 i xs.length=ar k/\xs[k]? =ar y/\Q y (upd H l (.lst (xs.eraseIdx k)))
theorem Dg:Nf X "list.pop" Df:=by
 intro pins s σ H x vs v us Q I U O h;obtain⟨l,xs,i,k,y,rfl,rfl,Y,W,T,N,R,q⟩:=h;cases U;obtain⟨u,rfl,P⟩:=O.one;obtain⟨t,rfl⟩:=P;obtain⟨z,its,n,r,S,e⟩:=I.lstM Y;obtain⟨w,hw,Z⟩:=r.get R;refine RH F.slot_list_pop ⟨_,e,rfl⟩ F.entry_list_pop (F.args_list_pop_2 _ _)
  (MeetsSeq.list_pop_at l its.toArray n i t k w (fitsIndex_both W T) (by rw[N5, <-S];exact N) (by rw[<-Pw];exact hw) (by rw[N5];omega)) ⟨e,?_⟩
 refine⟨y,_,I.lset (its':=its.eraseIdx k) Y e ?_ (r.eraseIdx k) ?_,Z,q⟩
 ·show its.toArray.eraseIdxIfInBounds k=(its.eraseIdx k).toArray;rw[List.eraseIdxIfInBounds_toArray]
 ·have:=uo xs k;omega
end
section
variable {prog:dV}{w:d_}{A:f_}{E:a_->cn->Prop}{s:cn}
end
section
variable {X:Cx}
end
end L2
namespace Att
open PySem PySem.W PySem.Calls PyProof.Rows
theorem qV{P:D_}{h:eg}:∀(ns:List Int) (vs:List a_),WellAll P h vs (ns.map WData.int)->ma vs ns:=by
 intro ns
 induction ns with
 |nil=>
  intro vs w;rw[Pl]at w;cases w;exact .nil
 | cons n ns ih=>
  intro vs w;rw[On]at w;cases w with
  |cons a b=>
   cases a;exact .cons _ _ (ih _ b)
theorem BR{l:S_}{n:Nat}(O:l.most=ar n){P:D_}{h:eg}{args:List WData}{Z:List a_}
  (Y:l.row.toRowW.claim.pre args=b_) (U:WellAll P h Z args):
  ∃a vs ns,Z=[ey a]/\args=[WData.list (ns.map WData.int)]/\h.get? a=ar {cls:=.type "list",data:=.seq vs.toArray}/\ma vs ns/\ns.length<=n:=by
 have AM:WShape.hasAll [] args [.list .int]=true:=(pre_splitW Y).1;have T:l.pre.holds [] {args:=args}=true:=(pre_splitW Y).2;obtain⟨d,r,rfl,S,Q⟩:=hasAllW_cons AM;obtain rfl:=hasAllW_nil Q;obtain⟨xs,rfl,N⟩:=hasW_list S;obtain⟨ns,rfl⟩:=items_int N;have hlen:ns.length<=n:=by
  unfold OpenLaw.pre at T;have W:(WTm.not (.lt (.lit (.int (n:Int))) (.len (.arg 0)))).holds [] {args:=[.list (ns.map .int)]}=true:=by have W:=(holds_andW T).1;rw[O]at W;exact W
  have X:=condW_of W (w_not (w_lt w_lit (w_len_list (w_arg rfl))));rw[NM]at X;refine Rr λq=>?_;have R:(n:Int)<((ns.length:Nat):Int):=by omega
  first
   |(rw[N1 R]at X;exact absurd X (by decide))
   |(simp at X;omega)
 cases U with
 |cons w1 w2=>
  cases w2;cases w1 with
  |list ho hall=>exact⟨_,_,ns,rfl,rfl,ho,qV ns _ hall,hlen⟩
theorem BS(l:S_)(args:List WData):l.row.toRowW.claim.post args (.bool b_) args=true:=
 postW_of (r:=l.row.toRowW) (X:=(b_==b_))
  (show WShape.has [] (.bool b_) .bool=b_ by first|rfl|decide|simp[WShape.has,WShape.arms,WShape.armsAll])
  (show(WTm.eq .res (.lit (.bool b_))).value [] {args:=args,res:=ar (.bool b_),after:=args}=ar (.bool (b_==b_))from w_eq_bool (w_res rfl) w_lit) rfl
theorem attach_call{l:S_}{n:Nat}{q:dV}{loose:List Str}{XP:(Str->Option a_)->eg->Prop}{YP:d_->eg->Prop}{d:SY}
  (J:l.most=ar n) (Q:d.params.defaults=[])
  (U:∀(w:d_) (s₀ Z:cn) (S N:Str->Option a_) (T:b') (o:Obj) (pm cd doc:a_) (a:b') (vs:List a_) (ns:List Int),
   Ground q loose [] XP w s₀ S N Z.heap->YP w Z.heap->
   Z.heap.get? T=ar o->o.data= .func (docDef d.name d.params d.body d.scope pm cd doc)->Z.heap.CodeRec cd d.name->S d.name=ar (.ref T)->
   Z.heap.get? a=ar {cls:=.type "list",data:=.seq vs.toArray}->ma vs ns->ns.length<=n->Z.gens= #[]->
   sb (er l.prog w) wz (.call (.ref T) ⟨[.ref a],[]⟩) (λr s'=>r= .ok (.ret (.bool b_))/\OldK Z.heap s'.heap/\s'.os=Z.os/\w_ s'.gens) Z):
  WalkO q loose XP YP l.row.toRowW d [] (λf vs=>PySem.call f vs):=by
 intro w s₀ Z S N G Y T o pm cd doc y kV E hd R K O H args vals as W L C P I;obtain rfl:y= .none:=Dflts.none K Q;obtain rfl:kV= .none:=Dflts.noKw K;obtain⟨a,vs,ns,rfl,rfl,X,hints,hlen⟩:=BR J W P;refine enter_call (Qj (U w s₀ Z S N T o pm cd doc a vs ns G Y E (fd_plain hd) R O X hints hlen H) λr s' A=>?_);obtain⟨rfl,F,B,z⟩:=A;exact⟨.inl ⟨.bool b_,.bool b_,[],rfl,λ_=>rfl,.bool b_,BS l _,λ_=>⟨List.Pairwise.nil,λ_ hm=>(nomatch hm)⟩⟩,F,B,z⟩
section
variable {prog:dV}{w:d_}{A:f_}{E:a_->cn->Prop}{s:cn}{K:Tg}
def ledger(h:eg)(L d:b'):List (b'×Obj):=(dq h.objs.size).filterMap λa=>if a=L\/a=d then none else (h.get? a).map λo=>(a,o)
end
end Att
namespace L2
open PySem PySem.Spec PyProof.Rows
theorem ki:∀{vs:List a_} {ns:List Int},ma vs ns->bJ (ns.map V.int) vs
 |_,_,.nil=>.nil
 |_,_,.cons n t h=>.cons ⟨t,rfl⟩ (ki h)
def IM(H:Hp):Prop:=∀b,H b=none\/∃o xs,H b=ar (.frz o (.lst xs))
theorem Dh{P:dV}{w:d_}{K:cC}{L B:Str->Option a_}{g:CO}{k:Nat}{t a:b'}{j:eb}{x:Str}{sp:Sp}{Z:cn}{vs:List a_}{ns:List Int}
  (KX:K.In Z.heap) (N:Z.heap.Ns e_ L) (X:Z.heap.Ns u5 B) (p:∀x:Str,x≠"__name__"->B x=k_ x) (Q:Z.heap.NoLimit) (hg:Z.gens= #[])
  (G:Z.heap.get? a=ar {cls:=.type "list",data:=.seq vs.toArray}) (c:ma vs ns) (hl:ns.length<=sizeLine) (hr:Room k wz)
  (F:∀base:eg,K.In base->base.Ns e_ L->FnOk P w K L base g k t j [x] sp) (T:∀(s:cn) (u:a_),B_ s j ⟨[u],[]⟩ [(x,u)])
  (A:∀H:Hp,IM H->lQ K H a (ns.map V.int)->sp [.ref a] H (λv _=>v= .bl b_) λ_ _ _=>False)
  (y:∀H e s',g [] H Z (λ_ _ _=>False) e s'->False):
  sb (er P w) wz (.call (.ref t) ⟨[.ref a],[]⟩) (λr s'=>r= .ok (.ret (.bool b_))/\OldK Z.heap s'.heap/\s'.os=Z.os/\w_ s'.gens) Z:=by
 have f:=ki c;have R:=c.length;have core:∀H:Hp,IM H->lQ K H a (ns.map V.int)->kh P w H Z.heap->(∀b,H b≠none->b=a)->(H a≠none->K.lookup a=none)->
   sb (er P w) wz (.call (.ref t) ⟨[.ref a],[]⟩) (λr s'=>r= .ok (.ret (.bool b_))/\OldK Z.heap s'.heap/\s'.os=Z.os/\w_ s'.gens) Z:=by
  intro H i hS O l hK;have Y:∀{b:b'} {o:Obj},Z.heap.get? b=ar o->H b=none->(nI Z.heap H).get? b=ar o:=λe n=>rD e n;have E:∀{b:b'} {o:Obj} {es:Array DictEntry} {ep:Nat},Z.heap.get? b=ar o->o.data= .dict es ep->H b=none:=λ{b o es ep} e d=>by
   cases q:H b with
   |none=>rfl
   |some u=>
    have C:b=a:=l b (by rw[q];simp);subst C;rw[G]at e;cases e;have d':Data.seq vs.toArray _=Data.dict es ep:=d;cases d'
  have U:∀{b:b'} {m:Str->Option a_},Z.heap.Ns b m->(nI Z.heap H).Ns b m:=λ{b m} ⟨o,es,ep,e,d,r⟩=>⟨o,es,ep,Y e (E e d),d,r⟩;have I:K.In (nI Z.heap H):=λb o e=>Y (KX b o e) (by
   cases q:H b with
   |none=>rfl
   |some u=>
    have C:b=a:=l b (by rw[q];simp);subst C;rw[hK (by rw[q];simp)]at e;cases e)
  have hM:Mod K L (nI Z.heap H):=⟨I,U N,⟨B,U X,p⟩,let ⟨mc,h1,h2⟩:=Q;⟨mc,U h1,h2⟩⟩;have e0:aE P w K L (nI Z.heap H) wz [] Z H:=⟨rfl,hM,λb o e=>Aw e,P4 (ug _ _),trivial,λb X=>absurd (show b∈([]:List b')from X) (by simp),O,.of_eq hg⟩;refine Qj ((F _ I (U N)).run wz [] Z H ⟨[.ref a],[]⟩ [.ref a] [.ref a] _ _ hr e0 (T Z (.ref a)) (.cons rfl .nil) (A H i hS)) λr s' h=>?_;cases r with
  |error e=>exact(y H e s' h).elim
  | ok fl=>
   cases fl with
   |next=>exact ke h
   |brk=>exact ke h
   |cont=>exact ke h
   | ret u=>
    obtain⟨v,H',os,bare,un,J,r',q⟩:=h;have q':v= .bl true:=q;subst q';obtain rfl:u=u4 true:=r';refine⟨rfl,OldK.of_keep λb o e=>?_,os,bare⟩;cases q:H b with
    |none=>exact un.keep b o e q (by intro z;exact absurd (show b∈([]:List b')from z) (by simp)) (by simp)
    | some u=>
     rcases i b with z|⟨ob,xs,z⟩
     ·rw[q]at z;cases z
     ·have z2:=un.frzs b ob _ z;obtain⟨e1,_⟩:=O b _ z;obtain⟨e2,_⟩:=J b _ z2;rw[e]at e1;cases e1;exact e2
 cases hk:K.lookup a with
 |some o=>
  have e:=KX a o hk;rw[G]at e;cases e;refine core (λ_=>none) (λ_=>.inl rfl) (.inr ⟨_,vs.toArray,_,hk,rfl,rfl,rfl,by rw[N5,R];exact hl,by simpa using f⟩) (λb u z=>by have S:(none:Option HO)=ar u:=z;cases S) (λb z=>absurd rfl z) λz=>absurd rfl z
 | none=>
  refine core (λb=>if b=a then ar (.frz {cls:=.type "list",data:=.seq vs.toArray} (.lst (ns.map V.int)))else none) (λb=>?_) (.inl (.inr ⟨{cls:=.type "list",data:=.seq vs.toArray},if_pos rfl⟩)) (λb u z=>?_) (λb z=>?_) λ_=>hk
  ·by_cases X:b=a
   ·exact .inr ⟨_,_,if_pos X⟩
   ·exact .inl (if_neg X)
  ·by_cases X:b=a
   ·have S:=(if_pos X).symm.trans z;cases S;subst X;exact⟨G,by rw[NM];exact hl,vs,_,f,G⟩
   ·have S:=(if_neg X).symm.trans z;cases S
  ·by_cases X:b=a
   ·exact X
   ·exact absurd (if_neg X) z
abbrev NL{K:cC}{h:eg}(_:K.In h):W.Frag:=K
theorem LR{l:SJ}{n k:Nat}{q:dV}{loose:List Str}{XP:(Str->Option a_)->eg->Prop}{YP:d_->eg->Prop}{d:SY}{K:D_->cC}{L:d_->CO}{sp:d_->Sp}{x:Str}
  (C:l.most=ar n) (Q:n<=sizeLine) (P:d.params.defaults=[]) (B:Room k wz)
  (t:∀(w:d_) (h:eg),YP w h->(K w.params).In h)
  (F:∀(w:d_) (Z:Str->Option a_) (S:b') (h:eg),(K w.params).In h->h.Ns e_ Z->Z d.name=ar (.ref S)->
   ∃fd:eb,(∀(s:cn) (u:a_),B_ s fd ⟨[u],[]⟩ [(x,u)])/\
    ∀base:eg,(K w.params).In base->base.Ns e_ Z->FnOk l.prog w (K w.params) Z base (L w) k S fd [x] (sp w))
  (R:∀(w:d_) (H:Hp) (a:b') (ns:List Int),ns.length<=n->IM H->lQ (K w.params) H a (ns.map V.int)->sp w [.ref a] H (λv _=>v= .bl b_) λ_ _ _=>False)
  (N:∀(w:d_) (H:Hp) (s:cn) (e:a_) (s':cn),L w [] H s (λ_ _ _=>False) e s'->False):
  Ta q loose XP YP l.row.toRowW d [] (λf vs=>PySem.call f vs):=by
 refine Att.attach_call C P λw s₀ U Z m S o pm cd doc a vs ns G Y p hd I O X hints hlen z=>?_;have J:=t w _ Y;obtain⟨fd,A,E⟩:=F w Z S _ J G.T.g O;exact Dh J G.T.g G.T.b G.T.builtins G.T.nolimit z X hints (NZ hlen Q) B E A (λH r y=>R w H a ns hlen r y) λH e s'=>N w H U e s'
def gL(s:n_):Arguments:=match s with
 | .FunctionDef _ a _ _ _ _ _ _ _ _=>a
 |_=>{posonlyargs:=[],args:=[],vararg:=none,kwonlyargs:=[],kw_defaults:=[],kwarg:=none,defaults:=[]}
def dQ(s:n_):List Stmt:=match s with
 | .FunctionDef _ _ b _ _ _ _ _ _ _=>b
 |_=>[]
def ai(s:n_):Scope:=match s with
 | .FunctionDef _ _ _ _ _ _ sc _ _ _=>sc
 |_=>{kind:=.function,names:=[],isGenerator:=c_,isCoroutine:=c_}
abbrev Ny:CO:=λ_ _ _ _ _ _=>False
abbrev E0:XK:=λ_ _ _=>False
structure Fun(K:cC)(x qual:Str)(st:n_)(f:b')(fd:eb):Prop where
 ex:∃(oc:a_) (od:Option b') (kV doc pm:a_) (an:Option b') (cdv ct:a_) (osl:Array (Option a_)),
  fd=wR x qual (gL st) (dQ st) (ai st) .none kV doc pm an cdv ct/\K.lookup f=ar ⟨oc,od,.func fd,osl⟩/\K' K cdv qual=b_
 kp:wm K (.ref f)=b_
section
variable {P:dV}{w:d_}{K:cC}{mg:Str->Option a_}{base:eg}
theorem Fun.binds{x qual:Str}{st:n_}{f:b'}{X:eb}{Y:List Str}(F:Fun K x qual st f X)
  (h:∀(kV doc pm:a_) (an:Option b') (Z ct:a_) (us:List a_),us.length=Y.length->bindArgs (wR x qual (gL st) (dQ st) (ai st) .none kV doc pm an Z ct) ⟨us,[]⟩=aC (Y.zip us)):Binds K X Y []:=by
 obtain⟨R,S,kV,doc,pm,an,Z,ct,T,rfl,Q,U⟩:=F.ex;exact .all (h kV doc pm an Z ct)
theorem IP{x qual:Str}{st:n_}{f:b'}{R:a_}{S U:Option b'}{X:Array (Option a_)}{kV Y T Z ct:a_}(l:K.lookup f=ar ⟨R,S,.func (wR x qual (gL st) (dQ st) (ai st) .none kV Y T U Z ct),X⟩)
  (c:K' K Z qual=b_) (k:wm K (.ref f)=b_):Fun K x qual st f (wR x qual (gL st) (dQ st) (ai st) .none kV Y T U Z ct):=⟨⟨R,S,kV,Y,T,U,Z,ct,X,rfl,l,c⟩,k⟩
end
section
variable {X:Cx}
theorem pv(i:Nat){x:Str}{pos:Pos}(W:X.N[i]? =ar x:=by rfl)(Y:Hs X.env.scope x:=by first|exact R_ rfl|exact L_ (R_ rfl)|exact L_ (L_ rfl))(U:(x==("__debug__":Str))=false:=by decide)
  (Z:(x==("__classdict__":Str))=false:=by decide):PE X (.Name x pos) (Ki i):=CU W Y U Z
end
end L2
end
namespace S3
open PySem PySem.W PyProof.Rows
def bL{α:Type}(b:Nat->Nat->Bool):SZ α->α
 | .ret a=>a
 | .ask i j k=>bL b (k (b i j))
theorem iW{α Z:Type}(b:Nat->Nat->Bool)(f:α->SZ Z):∀t:SZ α,bL b (t.bind f)=bL b (f (bL b t))
 | .ret _=>rfl
 | .ask i j k=>iW b f (k (b i j))
section
variable (r:Nat->Nat)
abbrev ff:Nat->Nat->Bool:=λi j=>decide (r i<r j)
def ka(p:Array Nat)(k:Nat):Nat:=r (p.getD k 0)
def Di(p:Array Nat)(n:Nat):Prop:=∀i j,i<=j->j<n->ka r p i<=ka r p j
def MH(p:Array Nat)(n:Nat):Prop:=∀i j,i<=j->j<n->ka r p j<=ka r p i
variable {r}
theorem oh{p q:Array Nat}{i j:Nat}(h:p[i]? =q[j]?):p.getD i 0=q.getD j 0:=by rw[O7,O7,h]
theorem vi{p:Array Nat}{i j:Nat}(Z:j<=p.size)(k:Nat):ka r (s_ p i j) k=if i<=k/\k<j then ka r p (i+j - 1 - k)else ka r p k:=by
 have h:=getElem?_mirror_all (i:=i) Z k;unfold ka s_;by_cases c:i<=k/\k<j
 ·rw[if_pos c]at h⊢;rw[oh h]
 ·rw[if_neg c]at h⊢;rw[oh h]
theorem uq{p:Array Nat}{Z d:Nat}(hs:Z<p.size)(Y:d<=Z)(k:Nat):ka r (S8 p Z d) k=if k=Z - d then ka r p Z else if Z - d<k/\k<=Z then ka r p (k - 1)else ka r p k:=by
 have h:=getElem?_bubble hs d Y k;unfold ka;by_cases c:k=Z - d
 ·rw[if_pos c]at h⊢;rw[oh h]
 ·rw[if_neg c]at h⊢;by_cases c2:Z - d<k/\k<=Z
  ·rw[if_pos c2]at h⊢;rw[oh h]
  ·rw[if_neg c2]at h⊢;rw[oh h]
theorem rN:(s_ p i j).size=p.size:=mirror_size _ _ _ _
theorem gd:(s_ p i j).Perm p:=mirror_perm _ _ _ _
theorem vj:∀(f n:Nat),1<=n->Di r p n->n<=bL (ff r) (qq p f n)/\bL (ff r) (qq p f n)<=n+f/\Di r p (bL (ff r) (qq p f n))
 |0,n,h1,h=>⟨NQ _,NQ _,h⟩
 | f +1,n,h1,h=>by
  show n<=bL (ff r) (if (ff r) (p.getD n 0) (p.getD (n - 1) 0)=b_ then RU n else qq p f (n+1))/\bL (ff r) (if (ff r) (p.getD n 0) (p.getD (n - 1) 0)=b_ then RU n else qq p f (n+1))<=n+(f+1)/\Di r p (bL (ff r) (if (ff r) (p.getD n 0) (p.getD (n - 1) 0)=b_ then RU n else qq p f (n+1)));by_cases c:(ff r) (p.getD n 0) (p.getD (n - 1) 0)=b_
  ·rw[if_pos c];exact⟨NQ _,by show n<=n+(f+1);omega,h⟩
  ·rw[if_neg c];have X:ka r p (n - 1)<=ka r p n:=by
    exact Rr λz=>c (N1 z)
   obtain⟨a1,a2,Y⟩:=vj f (n+1) (by omega) (λi j Z W=>by
    by_cases e:j=n
    ·subst e;by_cases e2:i=j
     ·subst e2;exact NQ _
     ·exact NZ (h i (j - 1) (by omega) (by omega)) X
    ·exact h i j Z (by omega))
   exact⟨by omega,by omega,Y⟩
structure Down(r:Nat->Nat)(p:Array Nat)(n q:Nat):Prop where
 dsc:MH r p n
 q1:q+1<=n
 eqs:∀k,n - (q+1)<=k->k<n->ka r p k=ka r p (n - 1)
theorem rO{p:Array Nat}(Z:n<=p.size)(h:Down r p n q):∀k,ka r (s_ p (n - (q+1)) n) k=ka r p k:=λk=>by
 rw[vi Z];split
 ·next c=>rw[h.eqs k c.1 c.2,h.eqs _ (by omega) (by omega)]
 ·rfl
theorem oj:∀(f:Nat) (p:Array Nat) (n q:Nat),n+f<=p.size->Down r p n q->
  Down r (bL (ff r) (ri f p n q)).1 (bL (ff r) (ri f p n q)).2.1 (bL (ff r) (ri f p n q)).2.2/\(bL (ff r) (ri f p n q)).1.Perm p/\n<=(bL (ff r) (ri f p n q)).2.1/\(bL (ff r) (ri f p n q)).2.1<=n+f
 |0,p,n,q,hs,h=>⟨h,Qo _,NQ _,NQ _⟩
 | f +1,p,n,q,hs,h=>by
  have e:bL (ff r) (ri (f+1) p n q)=if ka r p n<ka r p (n - 1)then (if q>0 then bL (ff r) (ri f (s_ p (n - (q+1)) n) (n+1) 0)else bL (ff r) (ri f p (n+1) 0))
    else if ka r p (n - 1)<ka r p n then (p,n,q)else bL (ff r) (ri f p (n+1) (q+1)):=by
   show bL (ff r) (if (ff r) (p.getD n 0) (p.getD (n - 1) 0)=b_ then _ else _)=_;unfold ka;by_cases c:r (p.getD n 0)<r (p.getD (n - 1) 0)
   ·rw[if_pos (by simpa using c),if_pos c];split<;>rfl
   ·rw[if_neg (by simpa using c),if_neg c];show bL (ff r) (if (ff r) (p.getD (n - 1) 0) (p.getD n 0)=b_ then _ else _)=_;by_cases c2:r (p.getD (n - 1) 0)<r (p.getD n 0)
    ·rw[if_pos (by simpa using c2),if_pos c2];rfl
    ·rw[if_neg (by simpa using c2),if_neg c2]
  have W:=h.q1;have ext:∀{p':Array Nat} {q':Nat},(∀k,ka r p' k=ka r p k)->ka r p n<=ka r p (n - 1)->(q'=0\/(q'=q+1/\ka r p n=ka r p (n - 1)))->Down r p' (n+1) q':=λ{p' q'} hk hle hq=>by
   refine⟨λi j Z U=>?_,by omega,λk T S=>?_⟩
   ·rw[hk,hk];by_cases ej:j=n
    ·subst ej;by_cases e2:i=j
     ·subst e2;exact NQ _
     ·exact NZ hle (h.dsc i (j - 1) (by omega) (by omega))
    ·exact h.dsc i j Z (by omega)
   ·rw[hk,hk,show n+1 - 1=n by omega];rcases hq with rfl|⟨rfl,he⟩
    ·have:k=n:=by omega
     subst this;rfl
    ·by_cases ek:k=n
     ·subst ek;rfl
     ·rw[he];exact h.eqs k (by omega) (by omega)
  rw[e];by_cases c:ka r p n<ka r p (n - 1)
  ·rw[if_pos c];by_cases hq:q>0
   ·rw[if_pos hq];obtain⟨a1,a2,Y,X⟩:=oj f (s_ p (n - (q+1)) n) (n+1) 0 (by rw[rN];omega) (ext (rO (by omega) h) (by omega) (.inl rfl));exact⟨a1,a2.trans gd,by omega,by omega⟩
   ·rw[if_neg hq];obtain⟨a1,a2,Y,X⟩:=oj f p (n+1) 0 (by omega) (ext (λ_=>rfl) (by omega) (.inl rfl));exact⟨a1,a2,by omega,by omega⟩
  ·rw[if_neg c];by_cases c2:ka r p (n - 1)<ka r p n
   ·rw[if_pos c2];exact⟨h,Qo _,NQ _,by show n<=n+(f+1);omega⟩
   ·rw[if_neg c2];obtain⟨a1,a2,Y,X⟩:=oj f p (n+1) (q+1) (by omega) (ext (λ_=>rfl) (by omega) (.inr ⟨rfl,by omega⟩));exact⟨a1,a2,by omega,by omega⟩
structure Got(r:Nat->Nat)(nrem:Nat)(p:Array Nat)(g:Nat×Array Nat):Prop where
 asc:Di r g.2 g.1
 le:g.1<=nrem
 pos:1<=g.1
 perm:g.2.Perm p
theorem ur{p:Array Nat}(Y:1<=n)(T:n<=nrem)(hs:nrem<=p.size)(h:MH r p n):Got r nrem p (bL (ff r) (SK n nrem p)):=by
 unfold SK;rw[iW];have X:Di r (s_ p 0 n) n:=λi j Z U=>by rw[vi (by omega),vi (by omega),if_pos ⟨by omega,by omega⟩,if_pos ⟨by omega,by omega⟩];exact h _ _ (by omega) (by omega)
 obtain⟨a1,a2,W⟩:=vj (p:=s_ p 0 n) (nrem - n) n Y X;exact⟨W,by show bL (ff r) (qq (s_ p 0 n) (nrem - n) n)<=nrem;omega,by show 1<=bL (ff r) (qq (s_ p 0 n) (nrem - n) n);omega,gd⟩
theorem om{p:Array Nat}(Q:n<nrem)(hs:nrem<=p.size)(h:Down r p (n+1) 0):Got r nrem p (bL (ff r) (RV n nrem p)):=by
 unfold RV;rw[iW];obtain⟨a1,a2,T,S⟩:=oj (nrem - (n+1)) p (n+1) 0 (by omega) h;generalize bL (ff r) (ri (nrem - (n+1)) p (n+1) 0)=d at a1 a2 T S;obtain⟨W,Z,X⟩:=d;dsimp only at a1 a2 T S;have Y:W.size=p.size:=a2.size_eq;by_cases hq:X>0
 ·show Got r nrem p (bL (ff r) (if X>0 then _ else _));rw[if_pos hq];have hd:MH r (s_ W (Z - (X+1)) Z) Z:=λi j U R=>by
   rw[rO (show Z<=W.size by omega) a1,rO (show Z<=W.size by omega) a1];exact a1.dsc i j U R
  have:=ur (n:=Z) (nrem:=nrem) (by omega) (by omega) (by rw[rN,Y];exact hs) hd;exact⟨this.asc,this.le,this.pos,(this.perm.trans gd).trans a2⟩
 ·show Got r nrem p (bL (ff r) (if X>0 then _ else _));rw[if_neg hq];have:=ur (n:=Z) (nrem:=nrem) (by omega) (by omega) (by rw[Y];exact hs) a1.dsc;exact⟨this.asc,this.le,this.pos,this.perm.trans a2⟩
theorem BU{p:Array Nat}(O:2<=nrem)(hs:nrem<=p.size):Got r nrem p (bL (ff r) (Sa nrem p)):=by
 unfold Sa;rw[iW];obtain⟨a1,a2,X⟩:=vj (r:=r) (p:=p) (nrem - 1) 1 (NQ _) (λi j Y T=>by
  have:i=j:=by omega
  subst this;exact NQ _)
 have stop:∀(f n:Nat),1<=n->bL (ff r) (qq p f n)<n+f->ka r p (bL (ff r) (qq p f n))<ka r p (bL (ff r) (qq p f n) - 1):=by
  intro f
  induction f with
  |zero=>intro n _ h;exact absurd h (Pj _)
  | succ f ih=>
   intro n W h;have e:bL (ff r) (qq p (f+1) n)=if ka r p n<ka r p (n - 1)then n else bL (ff r) (qq p f (n+1)):=by
    show bL (ff r) (if (ff r) (p.getD n 0) (p.getD (n - 1) 0)=b_ then _ else _)=_;unfold ka;by_cases c:r (p.getD n 0)<r (p.getD (n - 1) 0)
    ·rw[if_pos (N1 c),if_pos c];rfl
    ·rw[if_neg (λz=>c (OE z)),if_neg c]
   rw[e]at h⊢;by_cases c:ka r p n<ka r p (n - 1)
   ·rw[if_pos c];exact c
   ·rw[if_neg c]at h⊢;exact ih (n+1) (by omega) (by omega)
 have Z:=stop (nrem - 1) 1 (NQ _);generalize bL (ff r) (qq p (nrem - 1) 1)=n at a1 a2 X Z;by_cases hn:n=nrem
 ·show Got r nrem p (bL (ff r) (if (n==nrem)=b_ then _ else _));rw[if_pos (by simp[hn])];exact⟨X,by show n<=nrem;omega,a1,Qo _⟩
 ·show Got r nrem p (bL (ff r) (if (n==nrem)=b_ then _ else _));rw[if_neg (by simp[hn])];have P:=Z (by omega);by_cases W:n>1
  ·rw [if_pos W];show Got r nrem p (bL (ff r) (if (ff r) (p.getD 0 0) (p.getD (n - 1) 0)=b_ then _ else _));by_cases c:r (p.getD 0 0)<r (p.getD (n - 1) 0)
   ·rw[if_pos (N1 c)];exact⟨X,by show n<=nrem;omega,a1,Qo _⟩
   ·rw [if_neg (λz=>c (OE z))];have all:∀k,k<n->ka r p k=ka r p (n - 1):=λk Q=>by
     have S:=X 0 k (by omega) Q;have R:=X k (n - 1) (by omega) (by omega);have N:ka r p (n - 1)<=ka r p 0:=Rr c;omega
    have U:∀k,ka r (s_ p 0 n) k=ka r p k:=λk=>by
     rw[vi (by omega)];split
     ·next h=>rw[all k h.2,all _ (by omega)]
     ·rfl
    have:=om (r:=r) (n:=n) (nrem:=nrem) (p:=s_ p 0 n) (by omega) (by rw[rN];exact hs) ⟨λi j Y T=>by
      rw[U,U];by_cases ej:j=n
      ·subst ej;by_cases ei:i=j
       ·subst ei;exact NQ _
       ·rw[all i (by omega)];omega
      ·rw[all i (by omega),all j (by omega)];exact NQ _,by omega,λk S R=>by rw[show k=n+1 - 1 by omega]⟩
    exact⟨this.asc,this.le,this.pos,this.perm.trans gd⟩
  ·rw [if_neg W];have e1:n=1:=by omega
   subst e1;exact om (by omega) hs ⟨λi j Y T=>by
     by_cases ej:j=1
     ·subst ej;by_cases ei:i=1
      ·subst ei;exact NQ _
      ·rw[show i=1 - 1 by omega];omega
     ·rw[show i=j by omega];exact NQ _,by omega,λk S R=>by rw[show k=1+1 - 1 by omega]⟩
theorem pI(Z:Di r p k):∀(f l m:Nat),m - l<=f->l<=m->m<=k->(∀i,i<l->ka r p i<=ka r p k)->(∀i,m<=i->i<k->ka r p k<=ka r p i)->
  bL (ff r) (pz p k f l m)<=k/\(∀i,i<bL (ff r) (pz p k f l m)->ka r p i<=ka r p k)/\∀i,bL (ff r) (pz p k f l m)<=i->i<k->ka r p k<=ka r p i
 |0,l,m,hf,hl,hm,h1,h2=>by
  have:l=m:=by omega
  subst this;exact⟨by show l<=k;omega,h1,h2⟩
 | f+1,l,m,hf,hl,hm,h1,h2=>by
  by_cases c:l ≥ m
  ·have e:bL (ff r) (pz p k (f+1) l m)=l:=by
    show bL (ff r) (if l ≥ m then _ else _)=l;rw[if_pos c];rfl
   rw[e];have:l=m:=by omega
   subst this;exact⟨by omega,h1,h2⟩
  ·have e:bL (ff r) (pz p k (f+1) l m)=if ka r p k<ka r p ((l+m) / 2)then bL (ff r) (pz p k f l ((l+m) / 2))else bL (ff r) (pz p k f ((l+m) / 2+1) m):=by
    show bL (ff r) (if l ≥ m then _ else _)=_;rw[if_neg c];show bL (ff r) (if (ff r) (p.getD k 0) (p.getD ((l+m) / 2) 0)=b_ then _ else _)=_;unfold ka;by_cases d:r (p.getD k 0)<r (p.getD ((l+m) / 2) 0)
    ·rw[if_pos (N1 d),if_pos d]
    ·rw[if_neg (λz=>d (OE z)),if_neg d]
   rw[e];by_cases d:ka r p k<ka r p ((l+m) / 2)
   ·rw[if_pos d];exact pI Z f l ((l+m) / 2) (by omega) (by omega) (by omega) h1 λi Y X=>NZ (Qi d) (Z _ i Y X)
   ·rw[if_neg d];exact pI Z f ((l+m) / 2+1) m (by omega) (by omega) hm (λi Y=>NZ (Z i ((l+m) / 2) (by omega) (by omega)) (by omega)) h2
theorem AD:∀(f:Nat) (p:Array Nat) (k:Nat),k+f<=p.size->Di r p k->Di r (bL (ff r) (Q_ f p k)) (k+f)/\(bL (ff r) (Q_ f p k)).Perm p
 |0,p,k,hs,h=>⟨h,Qo _⟩
 | f +1,p,k,hs,h=>by
  have e:bL (ff r) (Q_ (f+1) p k)=bL (ff r) (Q_ f (S8 p k (k - bL (ff r) (pz p k k 0 k))) (k+1)):=by show bL (ff r) ((pz p k k 0 k).bind _)=_;rw[iW]
  rw[e];obtain⟨R,X,W⟩:=pI (r:=r) h k 0 k (by omega) (by omega) (NQ _) (λi U=>absurd U (Nat.not_lt_zero _)) (λi U P=>absurd P (by omega));generalize bL (ff r) (pz p k k 0 k)=l at R X W;have T:Di r (S8 p k (k - l)) (k+1):=λi j Z O=>by
   rw[uq (by omega) (by omega),uq (by omega) (by omega)];have Y:k - (k - l)=l:=by omega
   rw[Y];by_cases ei:i=l
   ·rw[if_pos ei];by_cases ej:j=l
    ·rw[if_pos ej];exact NQ _
    ·rw[if_neg ej,if_pos ⟨by omega,by omega⟩];exact W (j - 1) (by omega) (by omega)
   ·rw[if_neg ei];by_cases ci:l<i/\i<=k
    ·rw[if_pos ci,if_neg (by omega),if_pos ⟨by omega,by omega⟩];exact h _ _ (by omega) (by omega)
    ·rw[if_neg ci];by_cases ej:j=l
     ·rw[if_pos ej];exact X i (by omega)
     ·rw[if_neg ej];by_cases cj:l<j/\j<=k
      ·rw[if_pos cj];exact h _ _ (by omega) (by omega)
      ·rw[if_neg cj];exact h _ _ Z (by omega)
  obtain⟨S,Q⟩:=AD f (S8 p k (k - l)) (k+1) (by rw[bubble_size];omega) T;refine⟨?_,Q.trans (bubble_perm _ _ _)⟩;rw[show k+(f+1)=k+1+f by omega];exact S
theorem Dj(W:2<=n):Di r (bL (ff r) (u3 n)) n/\(bL (ff r) (u3 n)).Perm (y_ (dq n)):=by
 unfold u3;rw[iW];have G:=BU (r:=r) (nrem:=n) (p:=y_ (dq n)) W (by simp);generalize bL (ff r) (Sa n (y_ (dq n)))=g at G;obtain⟨m,p⟩:=g;have U:p.size=n:=by rw[G.perm.size_eq];simp
 have hle:m<=n:=G.le;have Y:1<=m:=G.pos;show Di r (bL (ff r) (if m<n then Q_ (n - max m 1) p (max m 1)else RU p)) n/\Array.Perm (bL (ff r) (if m<n then Q_ (n - max m 1) p (max m 1)else RU p)) (y_ (dq n));by_cases c:m<n
 ·rw[if_pos c];have em:max m 1=m:=by omega
  rw[em];obtain⟨Z,X⟩:=AD (r:=r) (n - m) p m (by omega) G.asc;refine⟨?_,X.trans G.perm⟩;rw[show m+(n - m)=n by omega]at Z;exact Z
 ·rw[if_neg c];have em:m=n:=by omega
  subst em;exact⟨G.asc,G.perm⟩
end
def yN(n:Nat){α:Type}(R:α->Prop):SZ α->Prop
 | .ret a=>R a
 | .ask i j k=>i<n/\j<n/\∀b,yN n R (k b)
theorem kj{n:Nat}{α Z:Type}{R:α->Prop}{Y:Z->Prop}{f:α->SZ Z}:∀{t:SZ α},yN n R t->(∀a,R a->yN n Y (f a))->yN n Y (t.bind f)
 | .ret a,h,k=>k a h
 | .ask i j g,h,k=>⟨h.1,h.2.1,λb=>kj (h.2.2 b) k⟩
theorem Dk{n:Nat}{α:Type}{R:α->Prop}{Z:Nat->Nat->(Bool->cn->Prop)->cn->Prop}{b:Nat->Nat->Bool}{s:cn}{Q:α->cn->Prop}(h:∀i j C,i<n->j<n->C (b i j) s->Z i j C s):
  ∀{t:SZ α},yN n R t->Q (bL b t) s->t.kasWp Z Q s
 | .ret a,_,q=>q
 | .ask i j k,o,q=>h i j _ o.1 o.2.1 (Dk h (o.2.2 (b i j)) q)
theorem rP{n:Nat}{α:Type}{R:α->Prop}{b Z:Nat->Nat->Bool}(h:∀i j,i<n->j<n->b i j=Z i j):∀{t:SZ α},yN n R t->bL b t=bL Z t
 | .ret a,_=>rfl
 | .ask i j k,o=>by
  show bL b (k (b i j))=bL Z (k (Z i j));rw[h i j o.1 o.2.1];exact rP h (o.2.2 _)
def In(n:Nat)(p:Array Nat):Prop:=0<n/\∀x∈p.toList,x<n
theorem In.get(h:In n p)(k:Nat):p.getD k 0<n:=by
 rw[O7];cases e:p[k]? with
 |none=>exact h.1
 |some x=>exact h.2 x (by rw[<-Pw]at e;exact OC e)
theorem In.perm{q:Array Nat}(h:In n p)(e:q.Perm p):In n q:=⟨h.1,λx Z=>h.2 x ((Array.Perm.toList e).mem_iff.mp Z)⟩
theorem vk(h:In n p):∀(f m:Nat),yN n (λ_=>True) (qq p f m)
 |0,m=>trivial
 | f+1,m=>⟨h.get _,h.get _,λb=>by
   cases b with
   |true=>exact trivial
   |false=>exact vk h f (m+1)⟩
theorem oq:∀(f:Nat) (p:Array Nat) (m q:Nat),In n p->yN n (λr=>In n r.1) (ri f p m q)
 |0,p,m,q,h=>h
 | f+1,p,m,q,h=>⟨h.get _,h.get _,λb=>by
   cases b with
   |true=>
    show yN n _ (if q>0 then _ else _);split
    ·exact oq f _ _ _ (h.perm gd)
    ·exact oq f _ _ _ h
   |false=>
    refine⟨h.get _,h.get _,λb=>?_⟩;cases b with
    |true=>exact h
    |false=>exact oq f _ _ _ h⟩
theorem uu(h:In n p):yN n (λr:Nat×Array Nat=>In n r.2) (SK m nrem p):=
 kj (vk (h.perm gd) _ _) λ_ _=>h.perm gd
theorem ot(h:In n p):yN n (λr:Nat×Array Nat=>In n r.2) (RV m nrem p):=
 kj (oq _ _ _ _ h) λa Z=>by
  split
  ·exact uu (Z.perm gd)
  ·exact uu Z
theorem BV(h:In n p):yN n (λr:Nat×Array Nat=>In n r.2) (Sa nrem p):=
 kj (vk h _ _) λa _=>by
  split
  ·exact h
  ·split
   ·refine⟨h.get _,h.get _,λb=>?_⟩;cases b with
    |true=>exact h
    |false=>exact ot (h.perm gd)
   ·exact ot h
theorem pJ(h:In n p):∀(f l m:Nat),yN n (λ_=>True) (pz p k f l m)
 |0,l,m=>trivial
 | f+1,l,m=>by
  show yN n _ (if l ≥ m then _ else _);split
  ·exact trivial
  ·refine⟨h.get _,h.get _,λb=>?_⟩;cases b with
   |true=>exact pJ h f _ _
   |false=>exact pJ h f _ _
theorem AE:∀(f:Nat) (p:Array Nat) (k:Nat),In n p->yN n (In n) (Q_ f p k)
 |0,p,k,h=>h
 |f+1,p,k,h=>kj (pJ h _ _ _) λl _=>AE f _ _ (h.perm (bubble_perm _ _ _))
theorem xb(Y:0<n):yN n (In n) (u3 n):=
 kj (BV ⟨Y,λx X=>by simpa using X⟩) λa Z=>by
  split
  ·exact AE _ _ _ Z
  ·exact Z
theorem xc{α:Type}{p q:α->Bool}:∀{l:List α} {x:α},(∀y∈l,p y=b_->q y=b_)->x∈l->p x=c_->q x=b_->l.countP p<l.countP q
 | y::l,x,h,hx,hp,hq=>by
  have W:l.countP p<=l.countP q:=List.countP_mono_left λz Z=>h z (N7 _ Z);rw[List.countP_cons,List.countP_cons];rcases N6.mp hx with e|hx'
  ·subst e;rw[hp,hq];simp;omega
  ·have X:=xc (λz Z=>h z (N7 _ Z)) hx' hp hq;have Y:=h y Ol;cases e1:p y with
   |true=>rw[Y e1];simp;omega
   |false=>simp;split<;>omega
theorem Ga{b:Nat->Nat->Bool}(P:2<=n)(S:∀i,i<n->b i i=c_)(N:∀i j k,i<n->j<n->k<n->b i j=b_->b j k=b_->b i k=b_)(W:∀i j k,i<n->j<n->k<n->b i k=b_->b i j=b_\/b j k=b_):
  (bL b (u3 n)).Perm (y_ (dq n))/\∀i j,i<=j->j<n->b ((bL b (u3 n)).getD j 0) ((bL b (u3 n)).getD i 0)=false:=by
 let r:Nat->Nat:=λi=>(dq n).countP λj=>b j i;have R:∀i j,i<n->j<n->b i j=decide (r i<r j):=λi j X Y=>by
  cases e:b i j with
  |true=>
   refine(N1 ?_).symm;exact xc (x:=i) (λy T h=>N y i j (N0.mp T) X Y h e) (N0.mpr X) (S i X) e
  |false=>
   refine(Ot (Sw.mpr ?_)).symm;refine List.countP_mono_left λy T h=>?_;rcases W y i j (N0.mp T) X Y h with z|z
   ·exact z
   ·rw[e]at z;cases z
 have O:bL b (u3 n)=bL (ff r) (u3 n):=rP R (xb (by omega));obtain⟨a1,a2⟩:=Dj (r:=r) P;rw[O];refine⟨a2,λi j U Y=>?_⟩;have Z:In n (bL (ff r) (u3 n)):=In.perm ⟨by omega,λx Q=>by simpa using Q⟩ a2;rw[R _ _ (Z.get j) (Z.get i)];exact Ot (Sw.mpr (a1 i j U Y))
end S3
namespace S3
open PySem PySem.Spec PySem.W PyProof.Rows L2
section
variable {prog:dV}{w:d_}{A:f_}{E:a_->cn->Prop}{s:cn}{Q:Bool->cn->Prop}
theorem xf:∀{us ws:List a_} {ns ms:List Int} (i:Nat),ma us ns->ma ws ms->Q (HT.lexLt ns ms) s->
  KatLex prog w A b (decide (us.length<ws.length)) Q (us.zip ws) i s
 |[],[],ns,ms,i,h1,h2,q=>by
  cases h1;cases h2;exact q
 |[],_::_,_,_,_,h1,h2,q=>by
  cases h1;cases h2;exact q
 |_::_,[],_,_,_,h1,h2,q=>by
  cases h1;cases h2;exact q
 | u::us,v::ws,ns,ms,i,h1,h2,q=>by
  cases h1 with
  |cons n t h1=>
  cases h2 with
  | cons k t' h2=>
   rw[HT.lexLt_cons]at q;by_cases e:n=k
   ·rw[if_pos e]at q;refine kat_cons (Rp ?_);have:(n==k)=true:=by simp[e]
    rw[this];refine kat_yes ?_;show KatLex prog w A b (decide (us.length+1<ws.length+1)) Q (us.zip ws) (i+1) s;rw[show decide (us.length+1<ws.length+1)=decide (us.length<ws.length) by simp];exact xf (i+1) h1 h2 q
   ·rw[if_neg e]at q;refine kat_cons (Rp ?_);have:(n==k)=false:=by simp[e]
    rw[this];refine kat_no ?_;cases hbi:(b && i==0)with
    |true=>exact oneLt_int q
    |false=>exact kat_one _ _ (lt_int q)
end
structure Tups(h:eg)(vs:List a_)(nss:List (List Int)):Prop where
 len:vs.length=nss.length
 get:∀(i:Nat),i<vs.length->∃a o us n,vs.getD i i_= .ref a/\h.get? a=ar o/\o.cls= .type "tuple"/\o.data= .seq us n/\ma us.toList (nss.getD i [])/\0<us.size
theorem Tups.keep{h':eg}(t:Tups h vs nss)(k:∀i a o,i<vs.length->vs.getD i i_= .ref a->h.get? a=ar o->h'.get? a=ar o):Tups h' vs nss:=
 ⟨t.len,λi Z=>let ⟨a,o,us,n,e1,e2,r⟩:=t.get i Z;⟨a,o,us,n,e1,k i a o Z e1 e2,r⟩⟩
theorem Tups.ask{s:cn}(t:Tups s.heap vs nss){C:Bool->cn->Prop}(U:i<vs.length)(W:j<vs.length)
  (q:C (HT.lexLt (nss.getD i []) (nss.getD j [])) s):kas_ask prog w A (tuples' b) vs i j C s:=by
 obtain⟨a,o,us,n,e1,e2,Q,Y,T,S⟩:=t.get i U;obtain⟨O,L,X,R,f1,f2,N,f4,Z,P⟩:=t.get j W;unfold kas_ask;rw[e1,f1];refine kat_lt e2 Y f2 f4 ?_;have z:=xf (prog:=prog) (w:=w) (A:=A) (b:=b) 0 T Z q;simpa using z
end S3
namespace S3
open PySem PySem.Spec PyProof.Rows L2
abbrev St:=L2.St
def ou(cells:List (Str×b')):List (Str×lB)->List (Str×b')->List (Str×b')
 |[],cs=>cs
 |(n,k)::r,cs=>ou cells r (if k== .free then (n,(cells.lookup n).getD 0)::cs else cs)
theorem oy(scope:Scope)(env:Env)(h:∀y∈scope.names,y.2= .free->∃c,env.cells.lookup y.1=ar c):closureFor scope env=aC (ou env.cells scope.names []):=by
 have go:∀(names:List (Str×lB)) (cs:List (Str×b')),(∀y∈names,y.2= .free->∃c,env.cells.lookup y.1=ar c)->
   (Tb names cs (λ(x:Str×lB) (r:List (Str×b'))=>(if (x.2==f')=b_ then do let a<-cellOf env x.1;aC (yd ((x.1,a)::r))else aC (yd r):Sem (ForInStep (List (Str×b'))))):Sem (List (Str×b')))=aC (ou env.cells names cs):=by
  intro names
  induction names with
  |nil=>intro cs _;rfl
  | cons y r ih=>
   intro cs U;obtain⟨n,k⟩:=y;have X:∀y∈r,y.2= .free->∃c,env.cells.lookup y.1=ar c:=λy hm=>U y (N7 _ hm);rw[J_];by_cases hk:(k==f')=b_
   ·have Y:k= .free:=by simpa using hk
    obtain⟨c,W⟩:=U (n,k) Ol Y;have e:cellOf env n=aC c:=by unfold cellOf;rw[W]
    simp only[hk,if_true,e,pure_bind];rw[ih _ X];simp only[ou,hk,if_true,W,Option.getD_some]
   ·have Z:(k==f')=false:=by simpa using hk
    simp only[Z,j_,if_false,pure_bind];rw[ih _ X];simp only[ou,Z,j_,if_false]
 have:=go scope.names [] h;unfold closureFor;simp only[bind_pure]at*;exact this
theorem AF{cells:List (Str×b')}:∀(names:List (Str×lB)) (cs:List (Str×b')),(∀y∈names,y.2= .free->∃c,cells.lookup y.1=ar c)->(∀p∈cs,cells.lookup p.1=ar p.2)->
  ∀p∈ou cells names cs,cells.lookup p.1=ar p.2
 |[],cs,_,h=>h
 | (n,k)::r,cs,hy,h=>by
  refine AF r _ (λy hm=>hy y (N7 _ hm)) λp Z=>?_;by_cases hk:(k==f')=b_
  ·rw[if_pos hk]at Z;rcases N6.mp Z with rfl|Z
   ·obtain⟨c,X⟩:=hy (n,k) Ol (by simpa using hk);show cells.lookup n=ar ((cells.lookup n).getD 0);have Y:cells.lookup n=ar c:=X;rw[Y];rfl
   ·exact h p Z
  ·rw[if_neg hk]at Z;exact h p Z
theorem rQ:∀(names:List (Str×lB)) (cs:List (Str×b')),(x,f')∈names\/x∈cs.map (·.1)->x∈(ou cells names cs).map (·.1)
 |[],cs,h=>by
  rcases h with h|h
  ·cases h
  ·exact h
 | (n,k)::r,cs,h=>by
  refine rQ r _ ?_;rcases h with h|h
  ·rcases N6.mp h with e|h
   ·cases e;refine .inr ?_;simp
   ·exact .inl h
  ·refine .inr ?_;by_cases hk:(k==f')=b_
   ·rw[if_pos hk];exact N7 _ h
   ·rw[if_neg hk];exact h
theorem lookup_mem:∀{l:List (Str×b')},l.lookup x=ar c->(x,c)∈l
 |[],h=>by cases h
 | (n,a)::r,h=>by
  by_cases e:x==n
  ·have Z:x=n:=by simpa using e
   rw[Ow,e]at h;have h':ar a=ar c:=h;cases h';subst Z;exact Ol
  ·have e2:(x==n)=false:=by simpa using e
   rw[Ow,e2]at h;exact N7 _ (lookup_mem h)
theorem mem_lookup:∀{l:List (Str×b')},x∈l.map (·.1)->∃c,l.lookup x=ar c
 |[],h=>by cases h
 | (n,a)::r,h=>by
  by_cases e:x==n
  ·exact⟨a,by rw[Ow,e]⟩
  ·have e2:(x==n)=false:=by simpa using e
   rw[Ow,e2];refine mem_lookup ?_;rcases N6.mp h with z|z
   ·have Z:x=n:=z;subst Z;simp at e
   ·exact z
theorem dX:∀{l:List (Str×lB)},l.lookup x=ar k->(x,k)∈l
 |[],h=>by cases h
 | (n,a)::r,h=>by
  by_cases e:x==n
  ·have Z:x=n:=by simpa using e
   rw[Ow,e]at h;have h':ar a=ar k:=h;cases h';subst Z;exact Ol
  ·have e2:(x==n)=false:=by simpa using e
   rw[Ow,e2]at h;exact N7 _ (dX h)
theorem kK{env:Env}:∀{names:List (Str×lB)} {k:lB},
  (names.map λ(n,k)=>if (k==f' && env.scope.kind== .function && env.kindOf n==ar .cell)then (n,pa)else (n,k)).lookup x=ar k->
   names.lookup x=ar k\/(k= .cell/\names.lookup x=ar .free)
 |[],k,h=>by cases h
 | (n,a)::r,k,h=>by
  by_cases e:x==n
  ·rw[On]at h;by_cases c:(a==f' && env.scope.kind== .function && env.kindOf n==ar .cell)=b_
   ·have Y:a= .free:=by
     simp only[h_,beq_iff_eq]at c;exact c.1.1
    simp only[c,if_true,kS,e]at h;cases h;refine .inr ⟨rfl,?_⟩;rw[Ow,e,Y]
   ·have Z:(a==f' && env.scope.kind== .function && env.kindOf n==ar .cell)=false:=by simpa using c
    simp only[Z,j_,if_false,kS,e]at h;refine .inl ?_;rw[Ow,e];exact h
  ·have e2:(x==n)=false:=by simpa using e
   rw[Ow,e2];refine kK (env:=env) (names:=r) ?_;rw[On]at h;by_cases c:(a==f' && env.scope.kind== .function && env.kindOf n==ar .cell)=b_
   ·simp only[c,if_true,kS,e2]at h;exact h
   ·have Z:(a==f' && env.scope.kind== .function && env.kindOf n==ar .cell)=false:=by simpa using c
    simp only[Z,j_,if_false,kS,e2]at h;exact h
theorem oz{env:Env}:∀{names:List (Str×lB)},names.lookup x=ar .free->
  (names.map λ(n,k)=>if (k==f' && env.scope.kind== .function && env.kindOf n==ar .cell)then (n,pa)else (n,k)).lookup x=ar .cell\/
  (names.map λ(n,k)=>if (k==f' && env.scope.kind== .function && env.kindOf n==ar .cell)then (n,pa)else (n,k)).lookup x=ar .free
 |[],h=>by cases h
 | (n,a)::r,h=>by
  rw[On];by_cases e:x==n
  ·rw[Ow,e]at h;have X:ar a=ar NameKind.free:=h;cases X;by_cases c:(f'==f' && env.scope.kind== .function && env.kindOf n==ar .cell)=b_
   ·refine .inl ?_;simp only[c,if_true,kS,e]
   ·have Z:(f'==f' && env.scope.kind== .function && env.kindOf n==ar .cell)=false:=by simpa using c
    refine .inr ?_;simp only[Z,j_,if_false,kS,e]
  ·have e2:(x==n)=false:=by simpa using e
   rw[Ow,e2]at h;have Y:=oz (env:=env) h;by_cases c:(a==f' && env.scope.kind== .function && env.kindOf n==ar .cell)=b_
   ·simp only[c,if_true,kS,e2];exact Y
   ·have Z:(a==f' && env.scope.kind== .function && env.kindOf n==ar .cell)=false:=by simpa using c
    simp only[Z,j_,if_false,kS,e2];exact Y
theorem j6:∀{names:List (Str×lB)} {n:Nat} {acc:List (Str×b')} {p:Str×b'},p∈i' n names acc->p∈acc\/n<=p.2
 |[],n,acc,p,h=>.inl h
 | (x,k)::r,n,acc,p,h=>by
  unfold i' at h;split at h
  ·rcases j6 h with h|h
   ·rcases N6.mp h with rfl|h
    ·exact .inr (NQ _)
    ·exact .inl h
   ·exact .inr (QD h)
  ·exact j6 h
theorem y9:∀{names:List (Str×lB)} {n:Nat} {acc:List (Str×b')},(∀p∈acc,p.2<n)->(∀x y c,(x,c)∈acc->(y,c)∈acc->x=y)->∀x y c,(x,c)∈i' n names acc->(y,c)∈i' n names acc->x=y
 |[],n,acc,_,hi,x,y,c,h1,h2=>hi x y c h1 h2
 | (z,k)::r,n,acc,hl,hi,x,y,c,h1,h2=>by
  unfold i' at h1 h2;by_cases hk:(k==pa)=b_
  ·rw[if_pos hk]at h1 h2;refine y9 (λp Z=>?_) (λx y c g1 g2=>?_) x y c h1 h2
   ·rcases N6.mp Z with rfl|Z
    ·exact PX _
    ·exact O1 (hl p Z)
   ·rcases N6.mp g1 with g1|g1<;>rcases N6.mp g2 with g2|g2
    ·rw[<-g2]at g1;exact(Prod.mk.inj g1).1
    ·cases g1;exact absurd (hl _ g2) (Pj _)
    ·cases g2;exact absurd (hl _ g1) (Pj _)
    ·exact hi x y c g1 g2
  ·rw[if_neg hk]at h1 h2;exact y9 hl hi x y c h1 h2
theorem vm:∀{names:List (Str×lB)} {n:Nat} {acc:List (Str×b')},(∀y∈names,y.2= .cell->y.1≠x)->(i' n names acc).lookup x=acc.lookup x
 |[],_,_,_=>rfl
 | (z,k)::r,n,acc,h=>by
  unfold i';split
  ·next hk=>
   rw[vm λy Z=>h y (N7 _ Z),Ow];have:(x==z)=false:=by have:=h (z,k) Ol (by simpa using hk);simpa using lx this
   rw[this]
  ·exact vm λy Z=>h y (N7 _ Z)
theorem vo:∀{names:List (Str×lB)} {h:eg} {acc:List (Str×b')} {p:Str×b'},p∈i' h.objs.size names acc->p∈acc\/(pushCells h names).IsCell p.2 none
 |[],h,acc,p,q=>.inl q
 | (x,k)::r,h,acc,p,q=>by
  unfold i' at q;unfold pushCells;split at q
  ·next hk=>
   rw[if_pos hk];have Z:p∈i' (h.push {cls:=.type "cell",data:=.cell none}).objs.size r ((x,h.objs.size)::acc):=by rw[OZ];exact q
   rcases vo Z with Z|Z
   ·rcases N6.mp Z with rfl|Z
    ·exact .inr ⟨_,Rz _ _ _ _ (N4 _ rfl),rfl⟩
    ·exact .inl Z
   ·exact .inr Z
  ·next hk=>
   rw[if_neg hk];exact vo q
theorem za:∀(names:List (Str×lB)) (n:Nat) (acc:List (Str×b')),((x,pa)∈names\/∃c,acc.lookup x=ar c/\m<=c)->m<=n->(i' n names acc).lookup x=ar a->m<=a
 | [],n,acc,h,hm,e=>by
  rcases h with h|⟨c,h2,h3⟩
  ·cases h
  ·have Y:acc.lookup x=ar a:=e;rw[h2]at Y;cases Y;exact h3
 | (z,k)::r,n,acc,h,hm,e=>by
  unfold i' at e;by_cases hk:(k==pa)=b_
  ·rw[if_pos hk]at e;refine za r (n+1) _ ?_ (Nat.le_succ_of_le hm) e;by_cases hz:(x==z)=b_
   ·exact .inr ⟨n,by rw[Ow,hz],hm⟩
   ·have Z:(x==z)=false:=by simpa using hz
    rcases h with h|⟨c,h2,h3⟩
    ·rcases N6.mp h with h|h
     ·cases h;simp at hz
     ·exact .inl h
    ·exact .inr ⟨c,by rw[Ow,Z];exact h2,h3⟩
  ·rw[if_neg hk]at e;refine za r n acc ?_ hm e;rcases h with h|h
   ·rcases N6.mp h with h|h
    ·cases h;simp at hk
    ·exact .inl h
   ·exact .inr h
theorem uw{s:cn}{scope:Scope}{env:Env}
  (h:∀h1,h1.Ns s.heap.objs.size (λ_=>none)->(∀b o,s.heap.get? b=ar o->h1.get? b=ar o)->(∀p∈i' (s.heap.objs.size+1) scope.names cl,p∈cl\/h1.IsCell p.2 none)->
   Q {scope,locals:=s.heap.objs.size,globals:=env.globals,cells:=i' (s.heap.objs.size+1) scope.names cl,qual:=env.qual,func:=none,code:=env.code,frame:=env.frame,builtins:=env.builtins} {s with heap:=h1}):
  ed M A (newFunctionEnv scope env.globals cl [] env.qual none .none (ar env)) Q E s:=by
 simp only[newFunctionEnv,Option.isSome_some,if_true];refine NN (wpAny_alloc (NN (wpAny_layCells _ (λname kind cells=>by cases hkc:kind==pa<;>simp[hkc]) _ _ _ _ ?_)));have e:({s with heap:=s.heap.push {cls:=.type "dict",data:=.dict #[]}}:cn).heap.objs.size=s.heap.objs.size+1:=OZ ..;rw[e];refine NN (m:=Tb [] _ _) (NT (NT (h _ ((Heap.Ns.new s.heap (.type "dict")).keeps (Rz _ _)) (λb o q=>Rz _ _ b o (NO _ q)) λp Z=>?_)));exact vo (h:=s.heap.push {cls:=.type "dict",data:=.dict #[]}) (by rw[e];exact Z)
def bp(X:Cx)(scope:Scope)(Nc:List Str)(C:b')(ex:List b')(s:cn)(H:Hp):Cx:=
 {X with N:=Nc,s₀:=s,H₀:=H,env:=compEnvC scope (i' (C+1) scope.names (ou X.env.cells scope.names [])) C X.env,outer:=X.stack,stack:=X.stack,ex:=ex,fn:=λx=>scope.names.lookup x==ar .cell,pn:=[],xe:=λ_ _=>False}
structure CompScope(X:Cx)(scope:Scope)(Nc:List Str)(js:List (Option Nat)):Prop where
 kind:scope.kind= .function
 cel:∀y∈scope.names,y.2= .cell->scope.names.lookup y.1=ar .cell
 loc:∀y∈scope.names,y.2= .local->scope.names.lookup y.1=ar .local
 free:∀y∈scope.names,y.2= .free->X.env.kindOf y.1=ar .cell\/X.env.kindOf y.1=ar .free
 len:js.length=Nc.length
 ix:∀(i:Nat) (x:Str) (j:Nat),Nc[i]? =ar x->js[i]? =ar (ar j)->X.N[j]? =ar x/\scope.names.lookup x=ar .free
def pK(js:List (Option Nat))(σ:St):St:=js.map λo=>o.bind λj=>(σ[j]?).join
def FA(X:Cx)(ifs:List Expr)(t:TT):Prop:=
 ∀(pins:List (b'×Obj)) (s:cn) (σ:St) (H:Hp) (Q:Bool->Hp->Prop),Inv X pins σ H s->t σ H Q->
  ed (er X.prog X.w) X.A (Tb ifs b_ λc r=>if r=b_ then do let ok<-isTrue c X.env (hD c X.env);aC (yd ok)else aC (yd r)) (TP X pins σ Q) X.xe s
theorem Gb:FA X [] (λ_ H Q=>Q b_ H):=λpins s σ H Q I h=>wpAny_tests_nil ⟨H,I,h⟩
theorem Gc(h:PT X c t):FA X [c] t:=λpins s σ H Q I hw=>wpAny_tests_one (h pins s σ H Q I hw)
def AG(wi:TI)(js:List (Option Nat))(g:TG)(tt:TT)(te:TE):TE:=λσ H Q=>wi σ H λJ H1=>∀p,H1 p=none->
 ∃W:Nat->Nat->St->Hp->Prop,(∃m,W 0 m (pK js σ) (upd H1 p (.lst [])))/\∀i m σc Hc,W i m σc Hc->
  (J.stop i Hc/\Q (.ref p) Hc)\/(J.go i Hc/\∃N:St->Hp->Prop,(∀ σ' H',N σ' H'->∃m',m'<m/\W (i+1) m' σ' H')/\∀x H',J.yld i Hc x H'->g x σc H' λσ2 H2=>tt σ2 H2 λb H3=>
   if b=b_ then te σ2 H3 λy H4=>∃xs,H4 p=ar (.lst xs)/\xs.length<sizeLine/\N σ2 (upd H4 p (.lst (xs++[y])))else N σ2 H3)
section
variable {X:Cx}{scope:Scope}{Nc:List Str}{js:List (Option Nat)}{pins:List (b'×Obj)}{σ:St}{H:Hp}{s:cn}
theorem CompScope.has(c:CompScope X scope Nc js)(Z:X.Ok):∀y∈scope.names,y.2= .free->∃a,X.env.cells.lookup y.1=ar a:=λy Y e=>Z.has y.1 (c.free y Y e)
theorem rR{O:eg}(c:CompScope X scope Nc js)(I:Inv X pins σ H s)(S:∀b∈ex,lM X pins H b)(G:∀b∈ex,b<s.heap.objs.size)
  (R:C=s.heap.objs.size) (n:O.Ns C (λ_=>none)) (hs:∀b o,s.heap.get? b=ar o->O.get? b=ar o)
  (A:∀p∈i' (C+1) scope.names (ou X.env.cells scope.names []),p∈ou X.env.cells scope.names []\/O.IsCell p.2 none):
  Inv (bp X scope Nc C ex s H) [] (pK js σ) H {s with heap:=O,toks:=tk}:=by
 have Y:=AF (cells:=X.env.cells) scope.names [] (c.has I.ok) (λ_ z=>nomatch z);have P:∀x a,(ou X.env.cells scope.names []).lookup x=ar a->X.env.cells.lookup x=ar a:=λx a e=>Y _ (lookup_mem e);have B:∀b o,s.heap.get? b=ar o->b≠C:=λb o e=>by rw[R];exact Ob (NV e)
 have Q:∀p∈ou X.env.cells scope.names [],p.2<C+1:=λp E=>by obtain⟨v,F,K,_⟩:=I.cell p.1 p.2 (Y p E);rw[R];exact O1 (NV K)
 have Z:∀x a,(i' (C+1) scope.names (ou X.env.cells scope.names [])).lookup x=ar a->X.env.cells.lookup x=ar a\/(C<a/\O.IsCell a none):=λx a e=>by
  have hm:=lookup_mem e;rcases A _ hm with z|z
  ·exact .inl (Y _ z)
  ·rcases j6 hm with y|y
   ·exact .inl (Y _ y)
   ·exact .inr ⟨y,z⟩
 refine⟨⟨I.ok.mod,c.kind,I.ok.glob,I.ok.blt,P4 R.symm,λx y a e1 e2=>y9 Q (λx y a e1 e2=>I.ok.inj x y a (Y _ e1) (Y _ e2)) x y a (lookup_mem e1) (lookup_mem e2),λx J=>?_,λx a z e=>?_,I.ok.hd,I.ok.frames,.inl rfl,λb W=>⟨?_,λx a e z=>?_⟩,
  I.bs,NZ I.ok.bsz I.sz,λb o e W=>?_,λb W z=>?_,I.stack,I.stkFree⟩,rfl,I.bare,Un.kept hs,⟨_,n,λi x v e1 e2 e3=>?_⟩,λx a e=>?_,?_,λx a e=>?_,(λp E=>nomatch E),I.hok.kept hs,?_⟩
 ·-- names that are cells here have one
  have w:scope.names.lookup x=ar .free\/scope.names.lookup x=ar .cell:=by
   rcases J with J|J
   ·rcases kK (env:=X.env) (names:=scope.names) J with z|⟨_,z⟩
    ·exact .inr z
    ·exact .inl z
   ·rcases kK (env:=X.env) (names:=scope.names) J with z|⟨z,_⟩
    ·exact .inl z
    ·cases z
  refine PH.mp (Qu scope.names (C+1) _ ?_);rcases w with z|z
  ·exact .inr (PH.mpr (mem_lookup (rQ scope.names [] (.inl (dX z)))))
  ·exact .inl z
 ·-- the block's own cells are new
  have k:scope.names.lookup x=ar .cell:=by have:(scope.names.lookup x==ar .cell)=true:=z;simpa using this
  show s.heap.objs.size<=a;rw[<-R];exact QD (za (m:=C+1) scope.names (C+1) _ (.inl (dX k)) (NQ _) e)
 ·show b≠C;rw[R];exact Ob (G b W)
 ·rcases Z x a e with y|⟨y,_⟩
  ·exact(S b W).2.2.2.2.1 x a y z
  ·rw[z,R]at y;exact Pj _ (Nat.lt_trans y (G b W))
 ·have:b<X.base.objs.size:=NV e;rcases (S b W).2.2.2.1 with z|z
  ·exact I.ok.noex b o e z
  ·exact absurd (Oe this (NZ I.ok.bsz z)) (Pj _)
 ·rcases N6.mp (I.stkSub b z)with e|e
  ·exact(S b W).2.1 e
  ·exact(S b W).2.2.1 e
 ·-- the names that are read from around
  have t:Nc[i]? =ar x:=e1;have:∃j,js[i]? =ar (ar j)/\σ[j]? =ar (ar v):=by
   unfold pK at e2;rw[OR]at e2;cases q:js[i]? with
   |none=>rw[q]at e2;cases e2
   | some o=>
    rw[q]at e2;cases o with
    |none=>cases e2
    |some j=>
     refine⟨j,rfl,?_⟩;have U:(σ[j]?).join=ar v:=Oj e2;cases r:σ[j]? with
     |none=>rw[r]at U;cases U
     |some z=>rw[r]at U;exact P6 ar U
  obtain⟨j,hj,d⟩:=this;obtain⟨hN,T⟩:=c.ix i x j t hj;obtain⟨m,g,f⟩:=I.loc;have N:=c.free (x,.free) (dX T) rfl;have L:Hs X.env.scope x:=by
   rcases N with z|z
   ·exact .inr (.inl z)
   ·exact .inr (.inr z)
  obtain⟨u,l,lk⟩:=f j x v hN d L;refine⟨u,l,.inr ⟨?_,?_⟩⟩
  ·rcases oz (env:=X.env) T with z|z
   ·exact .inl z
   ·exact .inr z
  ·rcases lk with⟨z,_⟩|⟨_,a,ea,ha⟩
   ·rcases N with y|y
    ·rw[show X.env.kindOf x=ar pa from y]at z;cases z
    ·rw[show X.env.kindOf x=ar f' from y]at z;cases z
   ·obtain⟨b,W⟩:=mem_lookup (rQ (cells:=X.env.cells) scope.names [] (.inl (dX T)));have:=P x b W;rw[ea]at this;cases this;obtain⟨F,K,hd⟩:=ha;refine⟨a,?_,F,hs _ _ K,hd⟩;show(i' (C+1) scope.names (ou X.env.cells scope.names [])).lookup x=ar a;rw[vm λy h e z=>by have:=c.cel y h e;rw[z,T]at this;cases this];exact W
 ·rcases Z x a e with y|⟨_,y⟩
  ·obtain⟨v,F,K,hd⟩:=I.cell x a y;exact⟨v,F,hs _ _ K,hd⟩
  ·exact⟨_,y⟩
 ·show H C=none;rw[R];exact I.hok.fresh (NQ _)
 ·rcases Z x a e with y|⟨y,_⟩
  ·exact I.freeC x a y
  ·exact I.hok.fresh (by rw[<-R];exact Qi y)
 ·show(pK js σ).length=Nc.length;unfold pK;rw[NM];exact c.len
theorem xg(I:Inv X pins σ H s)(P:C=s.heap.objs.size)(Z:∀b∈ex,lM X pins H b)
  (T:Inv (bp X scope Nc C ex s H) [] σc H' s') (hs:y4 C s'.heap h2):Inv X pins σ H' {s' with heap:=h2}:=by
 have W:∀b o,s.heap.get? b=ar o->b≠C:=λb o e=>by rw[P];exact Ob (NV e)
 have B:=T.base;have u:Un (qv X.stack) ex H H' s.heap h2:={
  keep:=λb o e n Y U=>(hs.2 b (W b o e)).trans (B.keep b o e n Y U)
  slot:=λb o e n Y U=>by obtain⟨R,q⟩:=B.slot b o e n Y U;exact⟨R,(hs.2 b (W b o e)).trans q⟩
  free:=B.free
  there:=λb o e U=>by obtain⟨Q,q⟩:=B.there b o e U;exact⟨Q,(hs.2 b (W b o e)).trans q⟩
  tups:=B.tups
  frzs:=B.frzs
  tbls:=B.tbls}
 refine I.call' (s':={s' with heap:=h2}) (ch:=ex) T.os u (λb o e=>?_) T.bare λb Y=>⟨(Z b Y).2.2.2.1,(Z b Y).2.1,(Z b Y).2.2.2.2.1,(Z b Y).2.2.2.2.2⟩;have S:∀b o,H' b=ar o->b≠C:=λb o e z=>by have hf:H' C=none:=T.free;rw[z,hf]at e;cases e
 refine(T.hok b o e).stay (λd v hd q=>?_) (λ_ q=>q) λ_ _ q=>q;refine(hs.2 d ?_).trans q;rcases hd with z|z
 ·subst z;exact S _ _ e
 ·exact S _ _ z
theorem xh{Q:VK}(G:Option (a_->Sem Unit))(Qr:a_->cn->Prop)(c:CompScope X scope Nc js)(hc:X.calm=b_)(hi:PI X tg iter wi)
  (b4:∀C ex s H,Inv X pins σ H s->(∀b∈ex,lM X pins H b)->PG (bp X scope Nc C ex s H) tg g/\FA (bp X scope Nc C ex s H) ifs tt/\PE (bp X scope Nc C ex s H) elt te)
  (I:Inv X pins σ H s) (h:AG wi js g tt te σ H Q)
  (t:∀p C s' S,Q (.ref p) S->(∀f,y4 C s'.heap f->Inv X pins σ S {s' with heap:=f})->(∃m,s'.heap.Ns C m)->lM X pins S C->
   SW (er X.prog X.w) X.A X.xe G Qr (.ref p) C (.ok .next) s')
  (hs:∀x,gi iter X.env x=aC x:=by intro _;rfl):
  ed (er X.prog X.w) X.A (comprehension (.ListComp elt [⟨tg,iter,ifs,0⟩] scope pos) scope X.env pos' (newList []) c_ (hD iter X.env) G) Qr X.xe s:=by
 refine wpAny_comprehension_free rfl hs (oy scope X.env (c.has I.ok)) c.kind c.loc (eM (hi pins s σ H _ I h) λv s1 F=>eM F λe4 s2 f=>?_);obtain⟨it,Y,tn,J,U,e,I2,T,l,f2,hW⟩:=f;subst e;refine OQ (uw λF K R L=>?_);dsimp only at K R L⊢;obtain⟨W,⟨m0,w0⟩,turn⟩:=hW s2.heap.objs.size (I2.hok.fresh (NQ _));have j:Inv X pins σ (upd U s2.heap.objs.size (.lst [])) {s2 with heap:=s2.heap.push {cls:=.type "list",dict:=none,data:=.seq ([]:List a_).toArray}}:=
  I2.laid (t':=s2.toks) (λ_ _ q=>NO _ q) (NQ _) ⟨Og _,[],0,.nil,N4 _ rfl⟩
 generalize hS3:({s2 with heap:=s2.heap.push {cls:=.type "list",dict:=none,data:=.seq ([]:List a_).toArray}}:cn)=s3 at j;have e3:s3.heap=s2.heap.push {cls:=.type "list",dict:=none,data:=.seq ([]:List a_).toArray}:=by rw[<-hS3]
 rw[<-e3]at K R L⊢;generalize hp:s2.heap.objs.size=p at*;have E:∀b∈Y,b<p:=λb Z=>by obtain⟨o,e,_⟩:=T.obj _ _ l b Z;rw[<-hp];exact NV e
 have a4:∀b∈Y,b≠p:=λb Z=>Ob (E b Z);have a:∀b∈Y,lM X pins (upd U p (.lst [])) b:=λb Z=>⟨by rw[aO (a4 b Z)];exact(f2 b Z).1,(f2 b Z).2⟩;have B:s3.heap.objs.size=p+1:=by rw[e3,OZ,hp]
 have k:∀b∈Y,b<s3.heap.objs.size:=λb Z=>by rw[B];exact O1 (E b Z)
 have O:∀b o,s3.heap.get? b=ar o->F.get? b=ar o:=R;have a3:tn 0 F:=T.keep _ _ _ l λb Z o e=>O b o (by rw[e3];exact NO _ e);generalize hC:s3.heap.objs.size=C at*;have a9:F.Ns C (λ_=>none):=by simpa using K
 have start:∀tk,Inv (bp X scope Nc C Y s3 (upd U p (.lst []))) [] (pK js σ) (upd U p (.lst [])) {s3 with heap:=F,toks:=tk}:=λtk=>rR c j a (λb Z=>by rw[hC];exact k b Z) hC.symm a9 O L;have ok:=(start 0).ok;have P:∀{S:Hp},(∀b∈Y,S b=none)->∀b∈Y,lM (bp X scope Nc C Y s3 (upd U p (.lst []))) [] S b:=λhn b Z=>
  ⟨hn b Z,(ok.exf b Z).1,ok.exfs b Z,.inl Z,(ok.exf b Z).2,λ_ z=>nomatch z⟩
 obtain⟨hG,hT,hE⟩:=b4 C Y s3 (upd U p (.lst [])) j a;have loop:∀s':cn,Inv (bp X scope Nc C Y s3 (upd U p (.lst []))) [] (pK js σ) (upd U p (.lst [])) s'->tn 0 s'.heap->
   sb (er X.prog X.w) X.A (.compLoop (.ListComp elt [⟨tg,iter,ifs,0⟩] scope pos) 0 (.ref it) (.ref p) (bp X scope Nc C Y s3 (upd U p (.lst []))).env) (SW (er X.prog X.w) X.A X.xe G Qr (.ref p) C) s':=by
  intro s' I' b1;refine codeAny_loop rfl (λn s'=>∃i σ' S,Inv (bp X scope Nc C Y s3 (upd U p (.lst []))) [] σ' S s'/\tn i s'.heap/\(∀b∈Y,S b=none)/\W i n σ' S) ?_ m0 ⟨0,_,_,I',b1,λb Z=>(a b Z).1,w0⟩;rintro n s4 ⟨i,σ4,H4,I4,st4,fr4,w4⟩;show ed _ X.A ((RW (.ListComp elt [⟨tg,iter,ifs,0⟩] scope pos) 0 (.ref it) (.ref p) (bp X scope Nc C Y s3 (upd U p (.lst []))).env).onRaise (λx=>do zl x (bp X scope Nc C Y s3 (upd U p (.lst []))).env;theTreesLotGoes x)) _ _ s4;refine wpAny_noted ?_;rw[compTurn_list];refine NN (OM (NN ?_));rcases turn i n σ4 H4 w4 with⟨stop,qn⟩|⟨go,N,hN,step⟩
  ·refine Oq (T.done (bp X scope Nc C Y s3 (upd U p (.lst []))) rfl rfl rfl hc i [] s4 σ4 H4 (λ_ _=>False) I4 (P fr4) st4 stop) (λr s5 ⟨hr,I5⟩=>?_) λ_ _ z=>z.elim;subst hr;refine NT (t p C s5 H4 qn (λf b3=>xg j hC.symm a I5 b3) ?_ (j.fpOk (P4 hC) I5.free));obtain⟨m,hm,_⟩:=I5.loc;exact⟨m,hm⟩
  ·refine Oq (T.item (bp X scope Nc C Y s3 (upd U p (.lst []))) rfl rfl rfl hc i [] s4 σ4 H4 (λ_ _=>False) I4 (P fr4) st4 go) (λr s5 ⟨u,hr,h5⟩=>?_) λ_ _ z=>z.elim;subst hr;refine NN (Oq h5 (λ_ s6 ⟨x,H6,I6,r6,y6,st6,fr6⟩=>?_) λ_ _ z=>z.elim);have a5:=I6.pinned (P fr6) (T.obj _ _ st6);refine NN (Oq (hG _ s6 σ4 H6 x u _ a5 r6 (step x H6 y6)) (λ_ s7 ⟨σ7,H7,I7,q7⟩=>?_) λ_ _ z=>z.elim);refine NN (Oq (hT _ s7 σ7 H7 _ I7 q7) (λb s8 ⟨H8,I8,q8⟩=>?_) λ_ _ z=>z.elim);have RI:∀{σ9:St} {H9:Hp} {s9:cn},Inv (bp X scope Nc C Y s3 (upd U p (.lst []))) ([]++pD Y s6.heap) σ9 H9 s9->N σ9 H9->
     ∃m,m<n/\∃i σ' S,Inv (bp X scope Nc C Y s3 (upd U p (.lst []))) [] σ' S s9/\tn i s9.heap/\(∀b∈Y,S b=none)/\W i m σ' S:=λ{σ9 H9 s9} I9 n9=>by
    obtain⟨m',hm,w9⟩:=hN σ9 H9 n9;refine⟨m',hm,i+1,σ9,H9,I9.unpinned,T.keep _ _ _ st6 λb Z o e=>(I9.pin (b,o) (N9 _ (N9 _ (gy Z e)))).1,λb Z=>?_,w9⟩;obtain⟨o,e,d⟩:=T.obj _ _ st6 b Z;exact(I9.pin (b,o) (N9 _ (N9 _ (gy Z e)))).2.1
   cases b with
   |false=>exact NT ⟨rfl,RI I8 q8⟩
   |true=>
    refine NN (NN (Oq (hE _ s8 σ7 H8 _ I8 q8) (λy s9 ⟨yv,H9,I9,r9,q9⟩=>?_) λ_ _ z=>z.elim));obtain⟨xs,hx,hl,n9⟩:=q9;refine NN (Oq (pH (X:=bp X scope Nc C Y s3 (upd U p (.lst []))) _ s9 σ7 H9 (.ref p) [yv] (.ref p) [y] (λ_ S=>N σ7 S) I9 rfl (.cons r9 .nil) ⟨p,xs,yv,rfl,rfl,hx,hl,n9⟩) (λ_ s10 ⟨_,H10,I10,_,q10⟩=>?_) λ_ _ z=>z.elim);exact NT (NT ⟨rfl,RI I10 q10⟩)
 refine codeAny_compStart_list (loop _ ?_ ?_) (T.self _ 0 _ _ _ ?_ (loop _ ?_ ?_))
 all_goals first
  |exact a3
  |(subst hS3;exact start _)
theorem Gd(c:CompScope X scope Nc js)(W:X.calm=b_)(P:PI X tg iter wi)
  (Y:∀C ex s H,PG (bp X scope Nc C ex s H) tg g/\FA (bp X scope Nc C ex s H) ifs tt/\PE (bp X scope Nc C ex s H) elt te)
  (hs:∀x,gi iter X.env x=aC x:=by intro _;rfl):PE X (.ListComp elt [⟨tg,iter,ifs,0⟩] scope pos) (AG wi js g tt te):=by
 intro pins s σ H Q I h;rw[eval_ListComp];refine xh none _ c W P (λC ex s H _ _=>Y C ex s H) I h (λp C s' R q U S _=>?_) hs;obtain⟨m,hm⟩:=S;exact⟨m,hm,λT Z=>⟨.ref p,R,U T Z,rfl,q⟩⟩
theorem zb{pos:Pos}(F:X.N.Nodup)(W:X.N[i]? =ar x)(G:Loc X.env.scope x)
  (c:CompScope X scope Nc js) (R:X.calm=b_) (J:PI X tg iter wi)
  (U:∀C ex s H,PG (bp X scope Nc C ex s H) tg g/\FA (bp X scope Nc C ex s H) ifs tt/\PE (bp X scope Nc C ex s H) elt te)
  (T:nC (.ListComp elt [⟨tg,iter,ifs,0⟩] scope cpos) (ar (.Name x pos')) pos.line X.env=aC true:=by rfl)
  (E:X.fn x=b_\/X.env.scope.names.lookup x=ar .local:=by first|exact .inl rfl|exact .inr rfl|assumption)
  (hs:∀x,gi iter X.env x=aC x:=by intro _;rfl):PS X (.Assign [.Name x pos'] (.ListComp elt [⟨tg,iter,ifs,0⟩] scope cpos) pos) (Ik (AG wi js g tt te) (CZ i)):=by
 intro pins s σ H D I h;rw[exec_Assign_Name_used _ _ _ _ T];refine NN (OM (NN ?_));show ed _ X.A (do let _<-comprehension (.ListComp elt [⟨tg,iter,ifs,0⟩] scope cpos) scope X.env _ (newList []) c_ (hD iter X.env) (ar (Ic (.Name x pos') X.env))) _ _ s;refine NN (eM (xh (ar (Ic (.Name x pos') X.env)) (λ_ s'=>SP X pins D .next s') c R J (λC ex s H _ _=>U C ex s H) I h (λp C s' S q Q O Z=>?_) hs) λ_ s' q=>NT (NT q));obtain⟨m,hm⟩:=O;have P:Inv X pins σ S s':=Q s'.heap (.refl ..);refine wpAny_assign_Name (uh P F W G (v:=.ref p) rfl (λs'' I'' ⟨a,hsb,ha⟩=>?_) E);have K:C≠a:=by
  rcases ha with z|z
  ·rw[z];exact Z.2.1
  ·exact λe=>Z.2.2.2.2.1 x a z e.symm
 refine⟨m,hm.sameBut hsb K,λB Y=>?_⟩;exact⟨_,S,I''.turned (t':=s''.toks) (it:=C) (λb o L e=>(Y.2 b L).trans e) Z.1 Z.2.1 Z.2.2.2.1 Z.2.2.2.2.1 Z.2.2.2.2.2,q⟩
end
inductive D where
 |non|bl (b:Bool)|int (i:Int)|str (x:Str)|tup (ds:List D)|lst (k:Nat)|ro (ds:List D)|emp
 |fn (a c:b') (q:Str) (ds:List D) (vs:List V)|exc (x:Str) (ds:List D)
 |fz (ds:List D)
abbrev aK:=List (List D)
inductive Res(α:Type) where
 |ok (a:α)|ex (x:D)
def M(α:Type):=aK->Option (Res α×aK)
namespace M
def ret{α:Type}(a:α):M α:=λS=>ar (.ok a,S)
def bnd{α β:Type}(m:M α)(f:α->M β):M β:=λS=>match m S with
 |some (.ok a,S')=>f a S'
 |some (.ex x,S')=>ar (.ex x,S')
 |none=>none
def fail{α:Type}:M α:=λ_=>none
def raise{α:Type}(x:D):M α:=λS=>ar (.ex x,S)
noncomputable instance:Monad M where
 pure:=ret
 bind:=bnd
end M
def Nz(K:cC)(a:b')(xs:List V):Prop:=∃(o:Obj) (its:Array a_) (n:Nat),K.lookup a=ar o/\o.cls= .type "list"/\o.dict=none/\o.data= .seq its n/\its.size<=sizeLine/\bJ xs its.toList
def FB(K:cC)(H:Hp)(a:b')(vs:List V):Prop:=(∃o,H a=ar (.frz o (.lst vs)))\/Nz K a vs
theorem FB.sq{K:cC}{H:Hp}{a:b'}{vs:List V}(h:FB K H a vs):lQ K H a vs:=h.imp (λ⟨o,e⟩=>.inr ⟨o,e⟩) λz=>z
def KS(C a:b')(od:Option b'):eg->Prop:=λh=>∃oe vs,h.get? a=ar oe/\oe.cls= .ref C/\oe.dict=od/\oe.data= .fields vs
def Ge(qual:Str)(c:b'):eg->Prop:=λh=>h.CodeRec (.ref c) qual
def dD:List Str:=["law","_law_within_right","_law_refusals_right","_law_sharings_right","_law_right","_law_lists_right","_law_papers_right","_law_great_right","_law_told_right","_law_desks_right","_law_texts_right"]
def TabsOk(K:cC)(H:Hp):Prop:=∀x∈dD,∀c P,mh K x=ar (c,P)->∃ps,H P=ar (.tbl ps)/\TriplesOk ps.toList/\
 ∀pos cv,codeAmong pos ps.toList=ar cv->∃c',cv= .ref c'/\H c'=ar (.ext (Ge (x++".<locals>.<lambda>") c'))
theorem TabsOk.mono{K:cC}{H Z:Hp}(h:TabsOk K H)(k:∀a o,H a=ar o->(∀vs,o≠ .lst vs)->Z a=ar o):TabsOk K Z:=λx Y c P e=>
 let ⟨ps,h1,h2,h3⟩:=h x Y c P e
 ⟨ps,k _ _ h1 (by intro _ z;cases z),h2,λpos X q=>let ⟨c',e1,e2⟩:=h3 pos X q;⟨c',e1,k _ _ e2 (by intro _ z;cases z)⟩⟩
mutual
inductive RelD(K:cC)(ι:List b')(H:Hp):D->V->Prop where
 |non:RelD K ι H .non .non
 |bl (b:Bool):RelD K ι H (.bl b) (.bl b)
 |int (i:Int):RelD K ι H (.int i) (.int i)
 |str (x:Str):RelD K ι H (.str x) (.str x)
 |tup {a:b'} {ds:List D} {vs:List V}:H a=ar (.tup vs)->RelDs K ι H ds vs->RelD K ι H (.tup ds) (.ref a)
 |lst {a:b'} {k:Nat}:ι[k]? =ar a->RelD K ι H (.lst k) (.ref a)
 |ro {a:b'} {ds:List D} {vs:List V}:FB K H a vs->RelDs K ι H ds vs->RelD K ι H (.ro ds) (.ref a)
 |emp {a:b'}:H a=ar (.dK [])->RelD K ι H .emp (.ref a)
 |fn {a c:b'} {q:Str} {ds:List D} {vs:List V}:H c=ar (.ext (Ge q c))->RelDs K ι H ds vs->RelD K ι H (.fn a c q ds vs) (.ref a)
 |exc {a C:b'} {x:Str}:r7 K e_ x=ar (ar (.ref C))->H a=ar (.ext (KS C a none))->RelD K ι H (.exc x []) (.ref a)
 |excF {a C dx:b'} {x:Str} {fs:List (Str×V)} {ds:List D}:r7 K e_ x=ar (ar (.ref C))->H a=ar (.ext (KS C a (ar dx)))->H dx=ar (.xd fs)->fs.map (·.1)=([("many":Str),("most":Str)]:List Str)->RelDs K ι H ds (fs.map (·.2))->RelD K ι H (.exc x ds) (.ref a)
 |fz {a:b'} {o:Obj} {ds:List D} {vs:List V}:H a=ar (.frz o (.lst vs))->RelDs K ι H ds vs->RelD K ι H (.fz ds) (.ref a)
inductive RelDs(K:cC)(ι:List b')(H:Hp):List D->List V->Prop where
 |nil:RelDs K ι H [] []
 |cons {d:D} {v:V} {ds:List D} {vs:List V}:RelD K ι H d v->RelDs K ι H ds vs->RelDs K ι H (d::ds) (v::vs)
end
structure Rep(K:cC)(ι:List b')(H:Hp)(S:aK):Prop where
 nd:ι.Nodup
 len:ι.length=S.length
 get:∀(k:Nat) (a:b') (xs:List D),ι[k]? =ar a->S[k]? =ar xs->∃vs,H a=ar (.lst vs)/\RelDs K ι H xs vs
 tab:TabsOk K H
structure Ext(ι:List b')(H:Hp)(ι':List b')(H':Hp):Prop where
 ids:∃more,ι'=ι++more
 oth:∀a o,H a=ar o->a∉ι->(∀ps,o≠ .tbl ps)->H' a=ar o/\a∉ι'
structure ExtN(ι:List b')(H:Hp)(ι':List b')(H':Hp):Prop where
 ids:∃more,ι'=ι++more
 oth:∀a o,H a=ar o->a∉ι->(∀ps,o≠ .tbl ps)->(∀vs,o≠ .lst vs)->H' a=ar o/\a∉ι'
theorem Ext.n{Y Z:List b'}{H X:Hp}(e:Ext Y H Z X):ExtN Y H Z X:=⟨e.ids,λa o h n t _=>e.oth a o h n t⟩
theorem Ext.refl{Z:List b'}{H:Hp}:Ext Z H Z H:=⟨⟨[],by simp⟩,λ_ _ h n _=>⟨h,n⟩⟩
theorem Ext.trans{U Z Y:List b'}{H W X:Hp}(a:Ext U H Z W)(b:Ext Z W Y X):Ext U H Y X:=by obtain⟨S,e1⟩:=a.ids;obtain⟨T,e2⟩:=b.ids;exact⟨⟨S++T,by rw[e2,e1,OF]⟩,λc o h n t=>let ⟨h1,n1⟩:=a.oth c o h n t;b.oth c o h1 n1 t⟩
theorem ExtN.at{Y Z:List b'}{H W:Hp}(e:ExtN Y H Z W){k:Nat}{a:b'}(h:Y[k]? =ar a):Z[k]? =ar a:=by obtain⟨m,rfl⟩:=e.ids;have X:k<Y.length:=(NX.mp h).1;rw[Os X];exact h
section
variable {K:cC}{ι ι':List b'}{H H':Hp}{S:aK}
theorem Rep.isL(r:Rep K ι H S)(h:a∈ι):∃vs,H a=ar (.lst vs):=by
 obtain⟨k,Y,e⟩:=Ph.mp h;have Z:k<S.length:=by rw[<-r.len];exact Y
 obtain⟨vs,X,_⟩:=r.get k a (S[k]) (by rw[NR Y,e]) (NR Z);exact⟨vs,X⟩
theorem Rep.notIn(r:Rep K ι H S)(h:H a=ar o)(Z:∀vs,o≠ .lst vs):a∉ι:=λz=>by obtain⟨vs,e⟩:=r.isL z;rw[h]at e;exact Z vs (Oj e)
theorem Rep.free(r:Rep K ι H S)(h:H a=none):a∉ι:=λz=>by obtain⟨vs,e⟩:=r.isL z;rw[h]at e;cases e
mutual
theorem RelD.laterN(r:Rep K ι H S)(e:ExtN ι H ι' H'):∀{d:D} {v:V},RelD K ι H d v->RelD K ι' H' d v
 |_,_,.non=>.non
 |_,_,.bl b=>.bl b
 |_,_,.int i=>.int i
 |_,_,.str x=>.str x
 |_,_,.tup h hs=>.tup (e.oth _ _ h (r.notIn h (by intro _ z;cases z)) (by intro _ z;cases z) (by intro _ z;cases z)).1 (RelDs.laterN r e hs)
 |_,_,.lst h=>.lst (e.at h)
 |_,_,.ro h hs=>.ro (h.imp (λ⟨o,h⟩=>⟨o,(e.oth _ _ h (r.notIn h (by intro _ z;cases z)) (by intro _ z;cases z) (by intro _ z;cases z)).1⟩) λz=>z) (RelDs.laterN r e hs)
 |_,_,.emp h=>.emp (e.oth _ _ h (r.notIn h (by intro _ z;cases z)) (by intro _ z;cases z) (by intro _ z;cases z)).1
 |_,_,.fn h hs=>.fn (e.oth _ _ h (r.notIn h (by intro _ z;cases z)) (by intro _ z;cases z) (by intro _ z;cases z)).1 (RelDs.laterN r e hs)
 |_,_,.exc n h=>.exc n (e.oth _ _ h (r.notIn h (by intro _ z;cases z)) (by intro _ z;cases z) (by intro _ z;cases z)).1
 |_,_,.excF n h h2 hn hs=>.excF n (e.oth _ _ h (r.notIn h (by intro _ z;cases z)) (by intro _ z;cases z) (by intro _ z;cases z)).1 (e.oth _ _ h2 (r.notIn h2 (by intro _ z;cases z)) (by intro _ z;cases z) (by intro _ z;cases z)).1 hn (RelDs.laterN r e hs)
 |_,_,.fz h hs=>.fz (e.oth _ _ h (r.notIn h (by intro _ z;cases z)) (by intro _ z;cases z) (by intro _ z;cases z)).1 (RelDs.laterN r e hs)
theorem RelDs.laterN(r:Rep K ι H S)(e:ExtN ι H ι' H'):∀{ds:List D} {vs:List V},RelDs K ι H ds vs->RelDs K ι' H' ds vs
 |_,_,.nil=>.nil
 |_,_,.cons h hs=>.cons (RelD.laterN r e h) (RelDs.laterN r e hs)
end
theorem RelD.later(r:Rep K ι H S)(e:Ext ι H ι' H'){d:D}{v:V}(h:RelD K ι H d v):RelD K ι' H' d v:=RelD.laterN r e.n h
theorem RelDs.later(r:Rep K ι H S)(e:Ext ι H ι' H'){ds:List D}{vs:List V}(h:RelDs K ι H ds vs):RelDs K ι' H' ds vs:=RelDs.laterN r e.n h
theorem RelDs.length:∀{ds:List D} {vs:List V},RelDs K ι H ds vs->ds.length=vs.length
 |_,_,.nil=>rfl
 |_,_,.cons _ t=>by rw[Ou,Ou,RelDs.length t]
theorem RelDs.append:∀{ds es:List D} {vs ws:List V},RelDs K ι H ds vs->RelDs K ι H es ws->RelDs K ι H (ds++es) (vs++ws)
 |_,_,_,_,.nil,s=>s
 |_,_,_,_,.cons r t,s=>.cons r (RelDs.append t s)
theorem RelDs.get':∀{ds:List D} {vs:List V} {i:Nat} {d:D},RelDs K ι H ds vs->ds[i]? =ar d->∃v,vs[i]? =ar v/\RelD K ι H d v
 |_,_,_,_,.nil,e=>by simp at e
 |_,_,0,_,.cons r _,e=>by simp at e;subst e;exact⟨_,rfl,r⟩
 |_,_,i+1,v,.cons _ t,e=>by
  obtain⟨u,Y,Z⟩:=RelDs.get' (i:=i) t (by simpa using e);exact⟨u,by simpa using Y,Z⟩
theorem RelDs.take:∀{ds:List D} {vs:List V} (n:Nat),RelDs K ι H ds vs->RelDs K ι H (ds.take n) (vs.take n)
 |_,_,0,_=>.nil
 |_,_,_+1,.nil=>.nil
 |_,_,n+1,.cons r t=>.cons r (RelDs.take n t)
theorem RelDs.drop:∀{ds:List D} {vs:List V} (n:Nat),RelDs K ι H ds vs->RelDs K ι H (ds.drop n) (vs.drop n)
 |_,_,0,r=>r
 |_,_,_+1,.nil=>.nil
 |_,_,n+1,.cons _ t=>RelDs.drop n t
theorem RelDs.set(r:RelD K ι H d v):∀{ds:List D} {vs:List V} (i:Nat),RelDs K ι H ds vs->RelDs K ι H (ds.set i d) (vs.set i v)
 |_,_,_,.nil=>.nil
 |_,_,0,.cons _ t=>.cons r t
 |_,_,i+1,.cons q t=>.cons q (RelDs.set r i t)
theorem RelDs.eraseIdx:∀{ds:List D} {vs:List V} (i:Nat),RelDs K ι H ds vs->RelDs K ι H (ds.eraseIdx i) (vs.eraseIdx i)
 |_,_,_,.nil=>.nil
 |_,_,0,.cons _ t=>t
 |_,_,i+1,.cons q t=>.cons q (RelDs.eraseIdx i t)
theorem iI(Z:H p=none):Ext ι H ι (upd H p o):=⟨⟨[],by simp⟩,λa Y h n _=>⟨by rw[aO (a8 h Z)];exact h,n⟩⟩
theorem kL{p:b'}{o:HO}(r:Rep K ι H S)(Z:H p=none):Rep K ι (upd H p o) S:=by refine⟨r.nd,r.len,λk a xs e1 e2=>?_,r.tab.mono λb o h _=>by rw[aO (a8 h Z)];exact h⟩;obtain⟨vs,Y,X⟩:=r.get k a xs e1 e2;exact⟨vs,by rw[aO (a8 Y Z)];exact Y,RelDs.later r (iI Z) X⟩
theorem xk(Z:H p=none):Ext ι H (ι++[p]) (upd H p o):=⟨⟨[p],rfl⟩,λa Y h n _=>⟨by rw[aO (a8 h Z)];exact h,by have:a≠p:=a8 h Z;simp[n,this]⟩⟩
theorem Dl{p:b'}{xs:List D}{vs:List V}(r:Rep K ι H S)(Z:H p=none)(h:RelDs K ι H xs vs):Rep K (ι++[p]) (upd H p (.lst vs)) (S++[xs]):=by
 have X:Ext ι H (ι++[p]) (upd H p (.lst vs)):=xk Z;refine⟨?_,by simp[r.len],λk a ys e1 e2=>?_,r.tab.mono λb o h _=>by rw[aO (a8 h Z)];exact h⟩
 ·rw[QE];refine⟨r.nd,by simp,λa T b Q=>?_⟩;have:b=p:=by simpa using Q
  subst this;rintro rfl;exact r.free Z T
 ·by_cases hk:k<ι.length
  ·rw[Os hk]at e1;rw[Os (by rw[<-r.len];exact hk)]at e2;obtain⟨ws,U,R⟩:=r.get k a ys e1 e2;exact⟨ws,by rw[aO (a8 U Z)];exact U,RelDs.later r X R⟩
  ·have Y:k<(ι++[p]).length:=(NX.mp e1).1;have:k=ι.length:=by simp at Y;omega
   subst this;simp at e1;rw[r.len]at e2;simp at e2;subst e1 e2;exact⟨vs,bf,RelDs.later r X h⟩
theorem rS:∀{l:List b'} {i j:Nat} {a:b'},l.Nodup->l[i]? =ar a->l[j]? =ar a->i=j
 |[],i,j,a,_,h,_=>by simp at h
 |x::r,0,0,a,_,_,_=>rfl
 |x::r,0,j+1,a,hn,h1,h2=>by
  simp at h1 h2;subst h1;exact absurd (OC h2) (ON.mp hn).1
 |x::r,i+1,0,a,hn,h1,h2=>by
  simp at h1 h2;subst h2;exact absurd (OC h1) (ON.mp hn).1
 |x::r,i+1,j+1,a,hn,h1,h2=>by
  simp at h1 h2;rw[rS (ON.mp hn).2 h1 h2]
theorem vp(Z:a∈ι):Ext ι H ι (upd H a o):=⟨⟨[],by simp⟩,λb Y h n _=>⟨by rw[aO (λz=>n (by rw[z];exact Z))];exact h,n⟩⟩
theorem vt{a:b'}{k:Nat}{xs:List D}{vs:List V}(r:Rep K ι H S)(Z:ι[k]? =ar a)(h:RelDs K ι H xs vs):Rep K ι (upd H a (.lst vs)) (S.set k xs):=by
 have X:a∈ι:=OC Z;have Y:Ext ι H ι (upd H a (.lst vs)):=vp X;refine⟨r.nd,by simp[r.len],λj b ys e1 e2=>?_,r.tab.mono λb o h n=>by obtain⟨ws,hw⟩:=r.isL X;rw[aO (λz=>by subst z;rw[h]at hw;exact n ws (Oj hw))];exact h⟩
 by_cases hj:j=k
 ·subst hj;rw[Z]at e1;cases e1;have R:j<S.length:=by rw[<-r.len];exact(NX.mp Z).1
  rw[OX R]at e2;cases e2;exact⟨vs,bf,RelDs.later r Y h⟩
 ·rw[OV (lx hj)]at e2;obtain⟨ws,U,T⟩:=r.get j b ys e1 e2;have Q:b≠a:=by
   rintro rfl;exact hj (rS r.nd e1 Z)
  exact⟨ws,by rw[aO Q];exact U,RelDs.later r Y T⟩
end
abbrev XD:=D->List b'->aK->Hp->Prop
def cont(K:cC)(E:XD){α:Type}(c:M α)(ι:List b')(S:aK)(H:Hp)(Q:α->List b'->aK->Hp->Prop):Prop:=
 ∃r S',c S=ar (r,S')/\∀ ι' H',Ext ι H ι' H'->Rep K ι' H' S'->match r with
  | .ok a=>Q a ι' S' H'
  | .ex x=>E x ι' S' H'
section
variable {K:cC}{E:XD}{ι:List b'}{S:aK}{H:Hp}{α β:Type}
theorem av{c:M α}{f:α->M β}{Q:β->List b'->aK->Hp->Prop}(h:cont K E (c>>=f) ι S H Q):cont K E c ι S H (λa Z S1 X=>cont K E (f a) Z S1 X Q):=by
 obtain⟨r,R,e,k⟩:=h;have Y:M.bnd c f S=ar (r,R):=e;unfold M.bnd at Y;cases q:c S with
 |none=>rw[q]at Y;cases Y
 | some p=>
  obtain⟨O,S1⟩:=p;rw[q]at Y;cases O with
  |ok a=>exact⟨.ok a,S1,q,λZ X U rep1=>⟨r,R,Y,λT P x2 rep2=>k T P (U.trans x2) rep2⟩⟩
  |ex x=>
   cases Y;exact⟨.ex x,_,q,λZ X U rep1=>k Z X U rep1⟩
theorem az{c:M α}{Q X:α->List b'->aK->Hp->Prop}(h:cont K E c ι S H Q)(k:∀a ι' Z H',Ext ι H ι' H'->Rep K ι' H' Z->Q a ι' Z H'->X a ι' Z H'):cont K E c ι S H X:=by
 obtain⟨r,Z,e,q⟩:=h;refine⟨r,Z,e,λY U T rep1=>?_⟩;have:=q Y U T rep1;cases r with
 |ok a=>exact k a Y Z U T rep1 this
 |ex x=>exact this
theorem ao{a:α}{Q:α->List b'->aK->Hp->Prop}(h:cont K E (aC a) ι S H Q){Z:List b'}{Y:Hp}(x:Ext ι H Z Y)(r:Rep K Z Y S):Q a Z S Y:=by obtain⟨U,X,e,q⟩:=h;cases e;exact q Z Y x r
theorem au{Q:α->List b'->aK->Hp->Prop}(h:cont K E (M.fail) ι S H Q):False:=by obtain⟨Y,Z,e,q⟩:=h;cases e
end
abbrev aE:=List (Option D)
inductive RelE(K:cC)(ι:List b')(H:Hp):aE->St->Prop where
 |nil:RelE K ι H [] []
 |cons {o:Option D} {u:Option V} {ρ:aE} {σ:St}:(∀d,o=ar d->∃v,u=ar v/\RelD K ι H d v)->RelE K ι H ρ σ->RelE K ι H (o::ρ) (u::σ)
section
variable {K:cC}{ι ι':List b'}{S:aK}{H H':Hp}
theorem RelE.later(r:Rep K ι H S)(e:Ext ι H ι' H'):∀{ρ:aE} {σ:St},RelE K ι H ρ σ->RelE K ι' H' ρ σ
 |_,_,.nil=>.nil
 |_,_,.cons h t=>.cons (λd z=>let ⟨v,e1,e2⟩:=h d z;⟨v,e1,RelD.later r e e2⟩) (RelE.later r e t)
theorem RelE.get:∀{ρ:aE} {σ:St} {i:Nat} {d:D},RelE K ι H ρ σ->ρ[i]? =ar (ar d)->∃v,σ[i]? =ar (ar v)/\RelD K ι H d v
 |_,_,_,_,.nil,e=>by simp at e
 |_,_,0,_,.cons h _,e=>by
  simp at e;obtain⟨v,e1,e2⟩:=h _ e;exact⟨v,by simp[e1],e2⟩
 |_,_,i+1,_,.cons _ t,e=>by
  obtain⟨v,Y,Z⟩:=RelE.get (i:=i) t (by simpa using e);exact⟨v,by simpa using Y,Z⟩
theorem RelE.set(r:RelD K ι H d v):∀{ρ:aE} {σ:St} (i:Nat),RelE K ι H ρ σ->RelE K ι H (ρ.set i (ar d)) (σ.set i (ar v))
 |_,_,_,.nil=>.nil
 |_,_,0,.cons _ t=>.cons (λd' z=>by cases z;exact⟨v,rfl,r⟩) t
 |_,_,i+1,.cons q t=>.cons q (RelE.set r i t)
theorem RelE.start:∀{ds:List D} {vs:List V},RelDs K ι H ds vs->∀n,RelE K ι H (ds.map ar++k' n none) (vs.map ar++k' n none)
 |_,_,.nil,n=>by
  induction n with
  |zero=>exact .nil
  |succ n ih=>exact .cons (λd z=>by cases z) ih
 |_,_,.cons r t,n=>.cons (λd z=>by cases z;exact⟨_,rfl,r⟩) (RelE.start t n)
end
abbrev TM:=aE->M D
def nB(K:cC)(Q:VK):D->List b'->aK->Hp->Prop:=λd ι' _ H'=>∀v,RelD K ι' H' d v->Q v H'
def tM(K:cC)(E:XD)(m:TM):TE:=λσ H Q=>∃ ι S ρ,Rep K ι H S/\RelE K ι H ρ σ/\cont K E (m ρ) ι S H (nB K Q)
def SE(X:Cx)(E:XD)(e:Expr)(m:TM):Prop:=PE X e (tM X.K E m)
def AH(K:cC)(E:XD)(m:aE->M Bool):TT:=λσ H Q=>∃ ι S ρ,Rep K ι H S/\RelE K ι H ρ σ/\cont K E (m ρ) ι S H (λb _ _ H'=>Q b H')
def SB(X:Cx)(E:XD)(e:Expr)(m:aE->M Bool):Prop:=PT X e (AH X.K E m)
def IQ(X:Cx)(E:XD)(e:Expr)(m:aE->M Bool):Prop:=PW X e (AH X.K E m)
def MI(K:cC)(E:XD)(m:aE->M (List D)):TA:=λσ H Q=>∃ ι S ρ,Rep K ι H S/\RelE K ι H ρ σ/\cont K E (m ρ) ι S H (λds ι' _ H'=>∀vs,RelDs K ι' H' ds vs->Q vs H')
def SA(X:Cx)(E:XD)(es:List Expr)(m:aE->M (List D)):Prop:=PA X es (MI X.K E m)
inductive Out where
 |nx (ρ:aE)|ret (d:D)|bk (ρ:aE)|ct (ρ:aE)
abbrev cL:=aE->M Out
def IR(K:cC)(T:Ends):Out->List b'->aK->Hp->Prop:=λo ι' _ H'=>match o with
 | .nx ρ=>∀ σ,RelE K ι' H' ρ σ->T.nx σ H'
 | .ret d=>∀v,RelD K ι' H' d v->T.rt v H'
 | .bk ρ=>∀ σ,RelE K ι' H' ρ σ->T.bk σ H'
 | .ct ρ=>∀ σ,RelE K ι' H' ρ σ->T.ct σ H'
def Ng(K:cC)(E:XD)(m:cL):TS:=λT σ H=>∃ ι S ρ,Rep K ι H S/\RelE K ι H ρ σ/\cont K E (m ρ) ι S H (IR K T)
def SS(X:Cx)(E:XD)(st:n_)(m:cL):Prop:=PS X st (Ng X.K E m)
def yO(X:Cx)(E:XD)(st:List n_)(m:cL):Prop:=tK X st (Ng X.K E m)
abbrev lR:=D->aE->M aE
def Dm(K:cC)(E:XD)(m:lR):TG:=λv σ H Q=>∃ ι S ρ d,Rep K ι H S/\RelE K ι H ρ σ/\RelD K ι H d v/\cont K E (m d ρ) ι S H (λρ' ι' _ H'=>∀ σ',RelE K ι' H' ρ' σ'->Q σ' H')
def SG(X:Cx)(E:XD)(tg:Expr)(m:lR):Prop:=PG X tg (Dm X.K E m)
theorem PE.imp{X:Cx}{e:Expr}{t t':TE}(h:PE X e t)(k:∀ σ H Q,t' σ H Q->t σ H Q):PE X e t':=λpins s σ H Q I hw=>h pins s σ H Q I (k σ H Q hw)
theorem PT.imp{X:Cx}{e:Expr}{t t':TT}(h:PT X e t)(k:∀ σ H Q,t' σ H Q->t σ H Q):PT X e t':=λpins s σ H Q I hw=>h pins s σ H Q I (k σ H Q hw)
theorem PW.imp{X:Cx}{e:Expr}{t t':TT}(h:PW X e t)(k:∀ σ H Q,t' σ H Q->t σ H Q):PW X e t':=λZ pins s σ H Q I hw=>h Z pins s σ H Q I (k σ H Q hw)
theorem PA.imp{X:Cx}{e:List Expr}{t t':TA}(h:PA X e t)(k:∀ σ H Q,t' σ H Q->t σ H Q):PA X e t':=λpos pins s σ H Q I hw=>h pos pins s σ H Q I (k σ H Q hw)
theorem PS.imp{X:Cx}{e:n_}{t t':TS}(h:PS X e t)(k:∀D σ H,t' D σ H->t D σ H):PS X e t':=λpins s σ H D I hw=>h pins s σ H D I (k D σ H hw)
theorem tK.imp{X:Cx}{e:List n_}{t t':TS}(h:tK X e t)(k:∀D σ H,t' D σ H->t D σ H):tK X e t':=λpins s σ H D I hw=>h pins s σ H D I (k D σ H hw)
theorem PG.imp{X:Cx}{e:Expr}{t t':TG}(h:PG X e t)(k:∀v σ H Q,t' v σ H Q->t v σ H Q):PG X e t':=λpins s σ H v u Q I r hw=>h pins s σ H v u Q I r (k v σ H Q hw)
section
variable {X:Cx}{E:XD}{a b e:Expr}{m n:TM}{pos:Pos}
def MJ(ρ:aE)(i:Nat):M D:=match ρ[i]? with
 |some (ar d)=>aC d
 |_=>M.fail
theorem aa(i:Nat)(U:X.N[i]? =ar x:=by rfl)(W:Hs X.env.scope x:=by first|exact R_ rfl|exact L_ (R_ rfl)|exact L_ (L_ rfl))(Y:(x==("__debug__":Str))=false:=by decide)
  (Z:(x==("__classdict__":Str))=false:=by decide):SE X E (.Name x pos) (λρ=>MJ ρ i):=by
 refine PE.imp (CU U W Y Z) λσ H Q h=>?_;obtain⟨T,S,ρ,rep,re,c⟩:=h;unfold MJ at c;dsimp only at c;split at c
 ·next d Y=>
  obtain⟨v,e1,e2⟩:=re.get Y;exact⟨v,e1,ao c .refl rep v e2⟩
 ·exact(au c).elim
theorem lS(h:PE X e (tC v))(Y:∀Z H,RelD X.K Z H d v):SE X E e (λ_=>aC d):=by refine PE.imp h λσ H Q h=>?_;obtain⟨Z,S,ρ,rep,re,c⟩:=h;exact ao c .refl rep v (Y _ _)
theorem aA{j}:SE X E (.Constant (.int i) j pos) (λ_=>aC (.int i)):=lS CV λ_ _=>.int i
theorem eF{j}:SE X E (.Constant (.bool i) j pos) (λ_=>aC (.bl i)):=lS Kj λ_ _=>.bl i
theorem kM{j}:SE X E (.Constant .none j pos) (λ_=>aC .non):=lS HV λ_ _=>.non
theorem pL{j}:SE X E (.Constant (.str x) j pos) (λ_=>aC (.str x)):=lS HW λ_ _=>.str x
theorem Gf(W:Gl X x)(Z:X.mg x=ar (.int i t))(Y:(x==("__debug__":Str))=false:=by decide):SE X E (.Name x pos) (λ_=>aC (.int i)):=
 lS (FK W Z (v:=.int i) ⟨t,rfl⟩ Y) λ_ _=>.int i
def wX(K:cC)(E:XD)(f:D->D->M D)(r:R2):Prop:=
 ∀ ι S H d1 d2 v1 v2 Q,Rep K ι H S->RelD K ι H d1 v1->RelD K ι H d2 v2->cont K E (f d1 d2) ι S H (nB K Q)->r v1 v2 H Q
theorem Gg(R:wX X.K E f r)(h:tM X.K E (λρ=>do let x<-m ρ;let y<-n ρ;f x y) σ H Q):Kx r (tM X.K E m) (tM X.K E n) σ H Q:=by obtain⟨T,S,ρ,rep,re,c⟩:=h;refine⟨T,S,ρ,rep,re,az (av c) λx Z S1 N e1 rep1 c1 v1 O=>?_⟩;refine⟨Z,S1,ρ,rep1,re.later rep e1,az (av c1) λy Y S2 W e2 rep2 P v2 U=>?_⟩;exact R Y S2 W x y v1 v2 Q rep2 (O.later rep1 e2) U P
theorem ux(h:j5 X (q_ op) r)(W:wX X.K E f r)(Y:SE X E a m)(Z:SE X E b n):SE X E (.BinOp a op b pos) (λρ=>do let x<-m ρ;let y<-n ρ;f x y):=
 PE.imp (Ky h Y Z) λ_ _ _ q=>Gg W q
theorem pM(h:j5 X (hh op) r)(U:wX X.K E f r)(W:SE X E a m)(Y:SE X E b n)(Z:kT op b=false:=by first|exact w5 _ (by decide) (by decide)|rfl):
  SE X E (.Compare a [op] [b] pos) (λρ=>do let x<-m ρ;let y<-n ρ;f x y):=
 PE.imp (FX h W Y Z) λ_ _ _ q=>Gg U q
theorem KU(h:Fz X r)(W:wX X.K E f r)(Y:SE X E a m)(Z:SE X E b n)(hs:vd b:=by intro _ _;rfl):SE X E (.Subscript a b pos) (λρ=>do let x<-m ρ;let y<-n ρ;f x y):=
 PE.imp (KO h Y Z hs) λ_ _ _ q=>Gg W q
end
def lim:Nat:=10000000
theorem hZ:lim<=sizeLine:=by rw[OW];decide
theorem Dn:lim<sizeLine:=by rw[OW];decide
section
variable {K:cC}{ι:List b'}{H:Hp}
theorem RelD.bl_inv(h:RelD K ι H (.bl b) v):v= .bl b:=by cases h;rfl
theorem RelD.int_inv(h:RelD K ι H (.int b) v):v= .int b:=by cases h;rfl
theorem RelD.str_inv(h:RelD K ι H (.str b) v):v= .str b:=by cases h;rfl
theorem RelD.non_inv(h:RelD K ι H .non v):v= .non:=by cases h;rfl
theorem RelD.tup_inv(h:RelD K ι H (.tup ds) v):∃a vs,v= .ref a/\H a=ar (.tup vs)/\RelDs K ι H ds vs:=by
 cases h with
 |tup h1 h2=>exact⟨_,_,rfl,h1,h2⟩
theorem RelD.lst_inv(h:RelD K ι H (.lst k) v):∃a,v= .ref a/\ι[k]? =ar a:=by
 cases h with
 |lst h1=>exact⟨_,rfl,h1⟩
theorem RelD.ro_inv(h:RelD K ι H (.ro ds) v):∃a vs,v= .ref a/\FB K H a vs/\RelDs K ι H ds vs:=by
 cases h with
 |ro h1 h2=>exact⟨_,_,rfl,h1,h2⟩
theorem RelD.fz_inv(h:RelD K ι H (.fz ds) v):∃a o vs,v= .ref a/\H a=ar (.frz o (.lst vs))/\RelDs K ι H ds vs:=by
 cases h with
 |fz h1 h2=>exact⟨_,_,_,rfl,h1,h2⟩
theorem RelDs.nil_inv(h:RelDs K ι H [] vs):vs=[]:=by cases h;rfl
theorem RelDs.cons_inv(h:RelDs K ι H (d::ds) vs):∃v ws,vs=v::ws/\RelD K ι H d v/\RelDs K ι H ds ws:=by
 cases h with
 |cons h1 h2=>exact⟨_,_,rfl,h1,h2⟩
end
def n4:D->M Bool
 | .bl b=>aC b
 |_=>M.fail
def getL(k:Nat):M (List D):=λS=>(S[k]?).bind λxs=>ar (.ok xs,S)
def bQ(ds:List D):M D:=λS=>if ds.length<=lim then ar (.ok (.lst S.length),S++[ds])else none
def nL(k:Nat)(ds:List D):M D:=λS=>if ds.length<=lim/\k<S.length then ar (.ok .non,S.set k ds)else none
def bw(ds:List D):M D:=if ds.length<=lim then aC (.tup ds)else M.fail
section
variable {K:cC}{E:XD}{ι:List b'}{S:aK}{H:Hp}{α:Type}
theorem vv{f:Bool->M α}(Z:Rep K ι H S)(r:RelD K ι H x v)(c:cont K E (n4 x>>=f) ι S H Q):∃b,v= .bl b/\x= .bl b/\cont K E (f b) ι S H Q:=by
 cases x with
 |bl b=>exact⟨b,r.bl_inv,rfl,ao (av c) .refl Z⟩
 |_=>exact(au (av c)).elim
theorem rT{Q:Bool->List b'->aK->Hp->Prop}(Z:Rep K ι H S)(r:RelD K ι H x v)(c:cont K E (n4 x) ι S H Q):∃b,v= .bl b/\x= .bl b/\Q b ι S H:=by
 cases x with
 |bl b=>exact⟨b,r.bl_inv,rfl,ao c .refl Z⟩
 |_=>exact(au c).elim
theorem BW{Q:D->List b'->aK->Hp->Prop}(c:cont K E (bQ ds) ι S H Q)(Z:Rep K ι H S)(r:RelDs K ι H ds vs):
  vs.length<=lim/\∀p,H p=none->Q (.lst S.length) (ι++[p]) (S++[ds]) (upd H p (.lst vs)):=by
 obtain⟨U,X,e,q⟩:=c;unfold bQ at e;split at e
 ·next hl=>
  cases e;exact⟨by rw[<-r.length];exact hl,λp Y=>q _ _ (xk Y) (Dl Z Y r)⟩
 ·cases e
theorem Do(Z:Rep K ι H S):RelD K (ι++[p]) H' (.lst S.length) (.ref p):=.lst (by rw[<-Z.len];simp)
theorem bK{Q:VK}(c:cont K E (bQ ds) ι S H (nB K Q))(Z:Rep K ι H S)(r:RelDs K ι H ds vs):vs.length<=lim/\∀p,H p=none->Q (.ref p) (upd H p (.lst vs)):=
 let ⟨h1,h2⟩:=BW c Z r
 ⟨h1,λp Y=>h2 p Y _ (Do Z)⟩
theorem i5{Q:VK}(c:cont K E (bw ds) ι S H (nB K Q))(Z:Rep K ι H S)(r:RelDs K ι H ds vs):vs.length<=lim/\∀p,H p=none->Q (.ref p) (upd H p (.tup vs)):=by
 unfold bw at c;split at c
 ·next hl=>
  refine⟨by rw[<-r.length];exact hl,λp Y=>?_⟩;exact ao c (iI Y) (kL Z Y) _ (.tup bf (r.later Z (iI Y)))
 ·exact(au c).elim
theorem kN{Q:VK}(c:cont K E (bw ds) ι S H (nB K Q))(Z:Rep K ι H S)(h:H a=ar (.tup vs))(r:RelDs K ι H ds vs):Q (.ref a) H:=by
 unfold bw at c;split at c
 ·exact ao c .refl Z _ (.tup h r)
 ·exact(au c).elim
theorem bI{f:List D->M α}(c:cont K E (getL k>>=f) ι S H Q)(Z:Rep K ι H S)(U:ι[k]? =ar a):
  ∃ds vs,S[k]? =ar ds/\H a=ar (.lst vs)/\RelDs K ι H ds vs/\cont K E (f ds) ι S H Q:=by
 obtain⟨R,T,e,q⟩:=av c;unfold getL at e;cases z:S[k]? with
 |none=>rw[z]at e;cases e
 |some ds=>
  rw[z]at e;cases e;obtain⟨vs,Y,X⟩:=Z.get k a ds U z;exact⟨ds,vs,rfl,Y,X,q ι H .refl Z⟩
theorem kl{Q:D->List b'->aK->Hp->Prop}(c:cont K E (nL k ds) ι S H Q)(Z:Rep K ι H S)(Y:ι[k]? =ar a)(r:RelDs K ι H ds vs):
  vs.length<=lim/\Q .non ι (S.set k ds) (upd H a (.lst vs)):=by
 obtain⟨U,X,e,q⟩:=c;unfold nL at e;split at e
 ·next hl=>
  cases e;exact⟨by rw[<-r.length];exact hl.1,q _ _ (vp (OC Y)) (vt Z Y r)⟩
 ·cases e
end
section
variable {X:Cx}{E:XD}{a b e:Expr}{m n:TM}{pos:Pos}{rest es:List Expr}{ms:aE->M (List D)}{t u:aE->M Bool}
theorem lU{op}(h:SE X E a m):SE X E (.BoolOp op [a] pos) m:=Ib h
theorem i6(W:SE X E a m)(T:SE X E (.BoolOp .And (b::rest) pos) n):SE X E (.BoolOp .And (a::b::rest) pos) (λρ=>do let x<-m ρ;let c<-n4 x;if c=b_ then n ρ else aC (.bl c_)):=by
 refine PE.imp (Ie W T) λσ H Q h=>?_;obtain⟨U,S,ρ,rep,re,c⟩:=h;refine⟨U,S,ρ,rep,re,az (av c) λx Z S1 P e1 rep1 c1 v1 R=>?_⟩;obtain⟨k,rfl,rfl,Y⟩:=vv rep1 R c1;refine⟨k,rfl,?_⟩;cases k with
 |true=>exact⟨Z,S1,ρ,rep1,re.later rep e1,Y⟩
 |false=>exact ao Y .refl rep1 _ (.bl c_)
theorem IS(Z:SE X E a m):SE X E (.UnaryOp .Not a pos) (λρ=>do let x<-m ρ;let c<-n4 x;aC (.bl (!c))):=by refine PE.imp (Ig Z) λσ H Q h=>?_;obtain⟨Y,S,ρ,rep,re,c⟩:=h;refine⟨Y,S,ρ,rep,re,az (av c) λx T S1 R e1 rep1 c1 v1 U=>?_⟩;obtain⟨k,rfl,rfl,W⟩:=vv rep1 U c1;exact⟨k,rfl,ao W .refl rep1 _ (.bl _)⟩
theorem KW(Y:SB X E c t)(W:SE X E a m)(T:SE X E b n):SE X E (.IfExp c a b pos) (λρ=>do let k<-t ρ;if k=b_ then m ρ else n ρ):=by
 refine PE.imp (CY Y W T) λσ H Q h=>?_;obtain⟨U,S,ρ,rep,re,c⟩:=h;refine⟨U,S,ρ,rep,re,az (av c) λk Z S1 R e1 rep1 c1=>?_⟩;cases k with
 |true=>exact⟨Z,S1,ρ,rep1,re.later rep e1,c1⟩
 |false=>exact⟨Z,S1,ρ,rep1,re.later rep e1,c1⟩
theorem KY(h:AH X.K E (λρ=>do let x<-m ρ;n4 x) σ H Q):tB (tM X.K E m) σ H Q:=by obtain⟨Z,S,ρ,rep,re,c⟩:=h;refine⟨Z,S,ρ,rep,re,az (av c) λx W S1 T e1 rep1 c1 v1 U=>?_⟩;obtain⟨k,rfl,rfl,Y⟩:=rT rep1 U c1;exact⟨k,rfl,Y⟩
theorem dh(h:SE X E e m)(Z:∀whole,isTrue e X.env whole=(do let v<-whole;xi e.pos;wh [v] (SL v)):=by intro _;rfl):SB X E e (λρ=>do let x<-m ρ;n4 x):=
 PT.imp (HX h Z) λ_ _ _ q=>KY q
theorem kO(h:j5 X (hh op) r)(W:wX X.K E f r)(Z:SE X E a m)(T:SE X E b n)(R:kT op b=false:=by first|exact w5 _ (by decide) (by decide)|rfl):
  SB X E (.Compare a [op] [b] pos) (λρ=>do let z<-(do let x<-m ρ;let y<-n ρ;f x y);n4 z):=
 PT.imp (FY h Z T R) λσ H Q q=>by obtain⟨Y,S,ρ,rep,re,c⟩:=q;refine Gg W (Q:=λx U=>∃k,x= .bl k/\Q k U) ⟨Y,S,ρ,rep,re,az (av c) λx N S1 L e1 rep1 c1 v1 O=>?_⟩;obtain⟨k,rfl,rfl,P⟩:=rT rep1 O c1;exact⟨k,rfl,P⟩
theorem ec(h:SB X E a t):SB X E (.UnaryOp .Not a pos) (λρ=>do let c<-t ρ;aC (!c)):=by refine PT.imp (Ia h) λσ H Q q=>?_;obtain⟨Y,S,ρ,rep,re,c⟩:=q;exact⟨Y,S,ρ,rep,re,az (av c) λk Z S1 W e1 rep1 c1=>ao c1 .refl rep1⟩
theorem vw(h:SB X E a t):IQ X E (.BoolOp .And [a] pos) t:=FM h
theorem lV(h:SB X E a t):IQ X E (.BoolOp .Or [a] pos) t:=HY h
theorem zd(Y:SB X E a t)(U:IQ X E (.BoolOp .And (b::rest) pos) u):IQ X E (.BoolOp .And (a::b::rest) pos) (λρ=>do let c<-t ρ;if c=b_ then u ρ else aC c_):=by
 refine PW.imp (HZ Y U) λσ H Q q=>?_;obtain⟨W,S,ρ,rep,re,c⟩:=q;refine⟨W,S,ρ,rep,re,az (av c) λk Z S1 T e1 rep1 c1=>?_⟩;cases k with
 |true=>exact⟨Z,S1,ρ,rep1,re.later rep e1,c1⟩
 |false=>exact ao c1 .refl rep1
theorem oA(Y:SB X E a t)(U:IQ X E (.BoolOp .Or (b::rest) pos) u):IQ X E (.BoolOp .Or (a::b::rest) pos) (λρ=>do let c<-t ρ;if c=b_ then aC b_ else u ρ):=by
 refine PW.imp (Kk Y U) λσ H Q q=>?_;obtain⟨W,S,ρ,rep,re,c⟩:=q;refine⟨W,S,ρ,rep,re,az (av c) λk Z S1 T e1 rep1 c1=>?_⟩;cases k with
 |false=>exact⟨Z,S1,ρ,rep1,re.later rep e1,c1⟩
 |true=>exact ao c1 .refl rep1
theorem rV(h:IQ X E e t):SB X E e t:=PW.pt h
theorem ah:SA X E [] (λ_=>aC []):=by refine PA.imp pF λσ H Q q=>?_;obtain⟨Z,S,ρ,rep,re,c⟩:=q;exact ao c .refl rep _ .nil
theorem af(Y:SE X E e m)(T:SA X E es ms)(hs:dt (e::es) X.env=(c_,hD e X.env)::dt es X.env:=by rfl):SA X E (e::es) (λρ=>do let x<-m ρ;let xs<-ms ρ;aC (x::xs)):=by refine PA.imp (kI Y T hs) λσ H Q q=>?_;obtain⟨U,S,ρ,rep,re,c⟩:=q;refine⟨U,S,ρ,rep,re,az (av c) λx Z S1 L e1 rep1 c1 v1 P=>?_⟩;refine⟨Z,S1,ρ,rep1,re.later rep e1,az (av c1) λxs O S2 N e2 rep2 R vs W=>?_⟩;exact ao R .refl rep2 _ (.cons (P.later rep1 e2) W)
theorem cN{x1}(h:SA X E es ms):SE X E (.Tuple es x1 pos) (λρ=>do let ds<-ms ρ;bw ds):=by refine PE.imp (ID h) λσ H Q q=>?_;obtain⟨Y,S,ρ,rep,re,c⟩:=q;refine⟨Y,S,ρ,rep,re,az (av c) λx T S1 R e1 rep1 c1 vs U=>?_⟩;obtain⟨Z,W⟩:=i5 c1 rep1 U;exact⟨NZ Z hZ,W⟩
theorem dJ(h:SA X E es ms):SE X E (.List es pos) (λρ=>do let ds<-ms ρ;bQ ds):=by refine PE.imp (IE h) λσ H Q q=>?_;obtain⟨Y,S,ρ,rep,re,c⟩:=q;refine⟨Y,S,ρ,rep,re,az (av c) λx T S1 R e1 rep1 c1 vs U=>?_⟩;obtain⟨Z,W⟩:=bK c1 rep1 U;exact⟨NZ Z hZ,W⟩
def lW(K:cC)(E:XD)(f:List D->M D)(r:List V->Hp->VK->Prop):Prop:=
 ∀ ι S H ds vs Q,Rep K ι H S->RelDs K ι H ds vs->cont K E (f ds) ι S H (nB K Q)->r vs H Q
theorem KZ(U:lW X.K E f r)(h:tM X.K E (λρ=>do let ds<-ms ρ;f ds) σ H Q):MD r (MI X.K E ms) σ H Q:=by obtain⟨W,S,ρ,rep,re,c⟩:=h;exact⟨W,S,ρ,rep,re,az (av c) λds Z S1 Y e1 rep1 c1 vs T=>U Z S1 Y ds vs Q rep1 T c1⟩
theorem i7{x:Str}{W:String}{f:List D->M D}{r:List V->Hp->VK->Prop}{p:Pos}(T:d8 X (.builtin W) r)(P:lW X.K E f r)(O:Gl X x)(R:X.mg x=none)(U:k_ x=ar (.builtin W))(S:SA X E (e::es) ms)
  (Q:x≠"__name__":=by decide) (Y:(x==("__debug__":Str))=false:=by decide) (N:dt (e::es) X.env=(c_,hD e X.env)::dt es X.env:=by rfl) (Z:(oo pos (dt es X.env)).any (·.1)=false:=by rfl):
  SE X E (.Call (.Name x p) (e::es) [] pos) (λρ=>do let ds<-ms ρ;f ds):=
 PE.imp (rJ T O R U S Q Y N Z) λ_ _ _ q=>KZ P q
theorem uy(U:d8 X (.type T) r)(P:lW X.K E f r)(O:Gl X x)(R:X.mg x=none)(W:k_ x=ar (.type T))(S:SA X E (e::es) ms)
  (Q:x≠"__name__":=by decide) (Y:(x==("__debug__":Str))=false:=by decide) (N:dt (e::es) X.env=(c_,hD e X.env)::dt es X.env:=by rfl) (Z:(oo pos (dt es X.env)).any (·.1)=false:=by rfl):
  SE X E (.Call (.Name x p) (e::es) [] pos) (λρ=>do let ds<-ms ρ;f ds):=
 PE.imp (mS U O R W S Q Y N Z) λ_ _ _ q=>KZ P q
abbrev di:XD:=λ_ _ _ _=>False
def NA(K:cC)(F:List D->M D):Sp:=λvs H Q _=>∃ ι S ds,Rep K ι H S/\RelDs K ι H ds vs/\cont K di (F ds) ι S H (nB K Q)
def K1(K:cC)(E:XD)(f:D->List D->M D)(r:V->List V->Hp->VK->Prop):Prop:=
 ∀ ι S H d ds v vs Q,Rep K ι H S->RelD K ι H d v->RelDs K ι H ds vs->cont K E (f d ds) ι S H (nB K Q)->r v vs H Q
end
theorem kP{K:cC}{E:XD}{α:Type}{c:M α}{X Z:List b'}{S:aK}{H U:Hp}{Q:α->List b'->aK->Hp->Prop}(h:cont K E c X S H Q)(e:Ext X H Z U):cont K E c Z S U Q:=by obtain⟨r,R,q,k⟩:=h;exact⟨r,R,q,λY T x2 rep2=>k Y T (e.trans x2) rep2⟩
section
variable {X:Cx}{E:XD}{st:n_}{sts:List n_}{m n:cL}{e:Expr}{me:TM}{t:aE->M Bool}{pos:Pos}{g:lR}
def IT(o:Out)(n:cL):M Out:=match o with
 | .nx ρ=>n ρ
 | .ret d=>aC (.ret d)
 | .bk ρ=>aC (.bk ρ)
 | .ct ρ=>aC (.ct ρ)
theorem bF:yO X E [] (λρ=>aC (.nx ρ)):=by refine tK.imp FN λT σ H h=>?_;obtain⟨Z,S,ρ,rep,re,c⟩:=h;exact ao c .refl rep σ re
theorem ax(W:SS X E st m)(R:yO X E sts n):yO X E (st::sts) (λρ=>do let o<-m ρ;IT o n):=by
 refine tK.imp (w6 W R) λT σ H h=>?_;obtain⟨Q,S,ρ,rep,re,c⟩:=h;refine⟨Q,S,ρ,rep,re,az (av c) λo Z S1 P e1 rep1 c1=>?_⟩;cases o with
 |nx ρ'=>exact λU Y=>⟨Z,S1,ρ',rep1,Y,c1⟩
 |ret d=>exact ao c1 .refl rep1
 |bk ρ'=>exact ao c1 .refl rep1
 |ct ρ'=>exact ao c1 .refl rep1
theorem aH(Z:SS X E st m):yO X E [st] m:=by refine tK.imp (Ax Z) λT σ H h=>h
theorem cG(Y:SE X E e me)(hs:nC e none pos.line X.env=aC false:=by rfl):SS X E (.Expr e pos) (λρ=>do let _<-me ρ;aC (.nx ρ)):=by refine PS.imp (FO Y hs) λT σ H h=>?_;obtain⟨Z,S,ρ,rep,re,c⟩:=h;refine⟨Z,S,ρ,rep,re,az (av c) λd W S1 U e1 rep1 c1 v r=>?_⟩;exact ao c1 .refl rep1 σ (re.later rep e1)
theorem aP(W:SE X E e me):SS X E (.Return (ar e) pos) (λρ=>do let d<-me ρ;aC (.ret d)):=by refine PS.imp (Ih W) λT σ H h=>?_;obtain⟨Y,S,ρ,rep,re,c⟩:=h;exact⟨Y,S,ρ,rep,re,az (av c) λd Z S1 U e1 rep1 c1=>ao c1 .refl rep1⟩
theorem cm(Y:SB X E e t)(W:yO X E a m)(R:yO X E b n):SS X E (.If e a b pos) (λρ=>do let c<-t ρ;if c=b_ then m ρ else n ρ):=by
 refine PS.imp (Kq Y W R) λT σ H h=>?_;obtain⟨U,S,ρ,rep,re,c⟩:=h;refine⟨U,S,ρ,rep,re,az (av c) λk Z S1 Q e1 rep1 c1=>?_⟩;cases k with
 |true=>exact⟨Z,S1,ρ,rep1,re.later rep e1,c1⟩
 |false=>exact⟨Z,S1,ρ,rep1,re.later rep e1,c1⟩
theorem aJ(i:Nat)(W:X.N.Nodup)(Y:X.N[i]? =ar x:=by rfl)(Z:Loc X.env.scope x:=by first|exact R_ rfl|exact L_ rfl)(U:X.fn x=b_\/X.env.scope.names.lookup x=ar .local:=by first|exact .inl rfl|exact .inr rfl|assumption):
  SG X E (.Name x pos) (λd ρ=>aC (ρ.set i (ar d))):=by
 refine PG.imp (FR W Y Z U) λv σ H Q h=>?_;obtain⟨T,S,ρ,d,rep,re,r,c⟩:=h;exact ao c .refl rep _ (re.set r i)
def MK(K:cC)(E:XD)(m:List D->aE->M aE):FP:=λvs σ H Q=>∃ ι S ρ ds,Rep K ι H S/\RelE K ι H ρ σ/\RelDs K ι H ds vs/\cont K E (m ds ρ) ι S H (λρ' ι' _ H'=>∀ σ',RelE K ι' H' ρ' σ'->Q σ' H')
def LS(X:Cx)(E:XD)(ts:List Expr)(m:List D->aE->M aE):Prop:=Fx X ts (MK X.K E m)
theorem Fx.imp{X:Cx}{e:List Expr}{t t':FP}(h:Fx X e t)(k:∀v σ H Q,t' v σ H Q->t v σ H Q):Fx X e t':=λpins s σ H v u Q I r hw=>h pins s σ H v u Q I r (k v σ H Q hw)
def dE:List D->aE->M aE:=λds ρ=>match ds with
 |[]=>aC ρ
 |_=>M.fail
def aY(g:lR)(gs:List D->aE->M aE):List D->aE->M aE:=λds ρ=>match ds with
 |d::r=>do let ρ1<-g d ρ;gs r ρ1
 |_=>M.fail
theorem dR:LS X E [] dE:=by
 refine Fx.imp FS λvs σ H Q h=>?_;obtain⟨Z,S,ρ,ds,rep,re,r,c⟩:=h;cases ds with
 |nil=>exact⟨r.nil_inv,ao c .refl rep σ re⟩
 |cons d ds=>exact(au c).elim
theorem ba(T:SG X E e g)(P:LS X E es gs)(hs:(oD (e::es) X.env).map (·.2)=Ic e X.env::(oD es X.env).map (·.2):=by rfl):LS X E (e::es) (aY g gs):=by
 refine Fx.imp (C0 T P hs) λvs σ H Q h=>?_;obtain⟨O,S,ρ,ds,rep,re,r,c⟩:=h;cases ds with
 |nil=>exact(au c).elim
 |cons d ds=>
  obtain⟨v,ws,rfl,N,R⟩:=r.cons_inv;refine⟨v,ws,rfl,O,S,ρ,d,rep,re,N,az (av c) λY W S1 L e1 rep1 c1 U Z=>?_⟩;exact⟨W,S1,Y,ds,rep1,Z,R.later rep e1,c1⟩
def dy(n:Nat)(gs:List D->aE->M aE):lR:=λd ρ=>match d with
 | .tup ds=>if ds.length=n then gs ds ρ else M.fail
 |_=>M.fail
theorem fx{es:List Expr}{k:Nat}{n:Nat}{W:List D->aE->M aE}(U:X.calm=b_)(h:LS X E es W)(P:(oD es X.env).length=n:=by rfl)(Z:(oD es X.env).findIdx? (·.1)=none:=by rfl):
  SG X E (.Tuple es k pos) (dy n W):=by
 refine PG.imp (Ii U h P Z) λv σ H Q q=>?_;obtain⟨R,S,ρ,d,rep,re,r,c⟩:=q;cases d with
 |tup ds=>
  obtain⟨a,vs,rfl,T,Y⟩:=r.tup_inv;dsimp only[dy]at c;split at c
  ·next hl=>exact⟨a,vs,rfl,mR.of T,by rw[<-Y.length];exact hl,R,S,ρ,ds,rep,re,Y,c⟩
  ·exact(au c).elim
 |_=>exact(au c).elim
theorem kQ(U:SE X E e me)(O:SG X E tg g)(hs:D' [tg] e pos.line X.env=aC false:=by rfl)(R:EA [tg] e X.env=aC none:=by rfl)
  (Y:(oD [tg] X.env).map (·.2)=[Ic tg X.env]:=by rfl):SS X E (.Assign [tg] e pos) (λρ=>do let d<-me ρ;let ρ'<-g d ρ;aC (.nx ρ')):=by
 refine PS.imp (Il U O hs R Y) λT σ H h=>?_;obtain⟨W,S,ρ,rep,re,c⟩:=h;refine⟨W,S,ρ,rep,re,az (av c) λd Z S1 L e1 rep1 c1 v r=>?_⟩;exact⟨Z,S1,ρ,d,rep1,re.later rep e1,r,az (av c1) λρ' P S2 N e2 rep2 Q=>ao Q .refl rep2⟩
theorem bz(i:Nat)(R:X.N.Nodup)(W:SE X E e me)(U:X.N[i]? =ar x:=by rfl)(Z:Loc X.env.scope x:=by first|exact R_ rfl|exact L_ rfl)(hs:nC e (ar (.Name x pos')) pos.line X.env=aC false:=by rfl)
  (Q:X.fn x=b_\/X.env.scope.names.lookup x=ar .local:=by first|exact .inl rfl|exact .inr rfl|assumption):SS X E (.Assign [.Name x pos'] e pos) (λρ=>do let d<-me ρ;aC (.nx (ρ.set i (ar d)))):=by
 refine PS.imp (Im R U Z W hs Q) λT σ H h=>?_;obtain⟨Y,S,ρ,rep,re,c⟩:=h;refine⟨Y,S,ρ,rep,re,az (av c) λd P S1 O e1 rep1 c1 v r=>?_⟩;exact ao c1 .refl rep1 _ ((re.later rep e1).set r i)
theorem IU(i j:Nat){kt k2 pt2}(Y:X.calm=b_)(B:X.N.Nodup)(J:SA X E [a,b] ms)(O:X.N[i]? =ar x:=by rfl)(F:X.N[j]? =ar y:=by rfl)(Z:i≠j:=by decide)
  (I:X.env.scope.names.lookup x=ar .local:=by rfl) (K:X.env.scope.names.lookup y=ar .local:=by rfl)
  (P:EA [.Tuple [.Name x px,.Name y py] kt pt] (.Tuple [a,b] k2 pt2) X.env=aC (ar [x,y]):=by rfl)
  (hs:D' [.Tuple [.Name x px,.Name y py] kt pt] (.Tuple [a,b] k2 pt2) pos.line X.env=aC false:=by rfl):
  SS X E (.Assign [.Tuple [.Name x px,.Name y py] kt pt] (.Tuple [a,b] k2 pt2) pos) (λρ=>do let ds<-ms ρ;match ds with|[d1,d2]=>aC (.nx ((ρ.set i (ar d1)).set j (ar d2)))|_=>M.fail):=by
 refine PS.imp (Io Y B O F Z I K J P hs) λT σ H h=>?_;obtain⟨Q,S,ρ,rep,re,c⟩:=h;refine⟨Q,S,ρ,rep,re,az (av c) λds L S1 A e1 rep1 c1 vs r=>?_⟩
 match ds,r,c1 with
 |[d1,d2],r,c1=>
  obtain⟨v1,ws,rfl,C,G⟩:=r.cons_inv;obtain⟨v2,R,rfl,U,W⟩:=G.cons_inv;cases W.nil_inv;exact⟨v1,v2,rfl,ao c1 .refl rep1 _ (((re.later rep e1).set C i).set U j)⟩
 |[],r,c1=>exact(au c1).elim
 |[d],r,c1=>exact(au c1).elim
 |d1::d2::d3::r',r,c1=>exact(au c1).elim
def ML(K:cC)(E:XD)(f:D->D->D->M Unit)(r:FQ):Prop:=
 ∀ ι S H d1 d2 d3 v1 v2 v3 Q,Rep K ι H S->RelD K ι H d1 v1->RelD K ι H d2 v2->RelD K ι H d3 v3->cont K E (f d1 d2 d3) ι S H (λ_ _ _ H'=>Q H')->r v1 v2 v3 H Q
def lX:D->D->D->M Unit:=λo i v=>match o,i with
 | .lst k,.int j=>do
  let xs<-getL k
  match yM xs.length j with
  |some at'=>do let _<-nL k (xs.set at' v);aC ()
  |none=>M.fail
 |_,_=>M.fail
inductive Chk where
 |none|some (k:Nat)|two (k j:Nat) (xs ys:List D)
structure Iter where
 items:List D
 chk:Chk
def Iter.okS(it:Iter)(S:aK):Prop:=match it.chk with
 | .none=>True
 | .some k=>S[k]? = .some it.items
 | .two k j xs ys=>S[k]? = .some xs/\S[j]? = .some ys
open Classical in
def iJ(it:Iter):M Unit:=λS=>if it.okS S then ar (.ok (),S)else none
def j8(K:cC)(it:Iter)(J:It)(ι:List b')(H:Hp):Prop:=
 ∀ ι2 H2 S2,ExtN ι H ι2 H2->Rep K ι2 H2 S2->it.okS S2->∀i,(∀d,it.items[i]? =ar d->J.go i H2/\∀x H3,J.yld i H2 x H3->Ext ι2 H2 ι2 H3/\Rep K ι2 H3 S2/\RelD K ι2 H3 d x)/\(it.items.length<=i->J.stop i H2)
def J5(K:cC)(E:XD)(mi:aE->M Iter):TI:=λσ H R=>∃ ι S ρ,Rep K ι H S/\RelE K ι H ρ σ/\cont K E (mi ρ) ι S H (λit ι' _ H'=>∀J,j8 K it J ι' H'->R J H')
def SI(X:Cx)(E:XD)(tg iter:Expr)(mi:aE->M Iter):Prop:=PI X tg iter (J5 X.K E mi)
def gz(it:Iter)(g:lR)(b:cL):List D->aE->M Out
 |[],ρ=>do iJ it;aC (.nx ρ)
 |d::ds,ρ=>do
  iJ it
  let ρ1<-g d ρ;let o<-b ρ1
  match o with
  | .nx ρ'=>gz it g b ds ρ'
  | .ct ρ'=>gz it g b ds ρ'
  | .bk ρ'=>aC (.nx ρ')
  | .ret r=>aC (.ret r)
theorem ko{K:cC}{Z:List b'}{S:aK}{H:Hp}{α:Type}{it:Iter}{f:Unit->M α}{Q:α->List b'->aK->Hp->Prop}(h:cont K E (iJ it>>=f) Z S H Q)(Y:Rep K Z H S):it.okS S/\cont K E (f ()) Z S H Q:=by
 obtain⟨r,U,e,k⟩:=av h;unfold iJ at e;split at e
 ·next ho=>cases e;exact⟨ho,k Z H .refl Y⟩
 ·cases e
theorem lY(hp:P_ (er X.prog X.w) X.A X.env X.xe)(j:X.calm=b_)(hi:SI X E tg iter mi)(hg:SG X E tg g)(hb:yO X E body b)
  (hs:∀x,gi iter X.env x=aC x:=by intro _;rfl):SS X E (.For tg iter body [] pos) (λρ=>do let it<-mi ρ;gz it g b it.items ρ):=by
 refine PS.imp (Ir hp j hi hg hb hs) λT σ H h=>?_;obtain⟨ι,S,ρ,rep,re,c⟩:=h;refine⟨ι,S,ρ,rep,re,az (av c) λit W S1 C e1 rep1 c1 J l=>?_⟩;refine⟨λi n N U=>∃ ι2 S2 ρ2,n=it.items.length - i/\i<=it.items.length/\Ext W C ι2 U/\Rep X.K ι2 U S2/\RelE X.K ι2 U ρ2 N/\cont X.K E (gz it g b (it.items.drop i) ρ2) ι2 S2 U (IR X.K T),⟨_,W,S1,ρ,rfl,Og _,.refl,rep1,re.later rep e1,c1⟩,?_⟩;rintro i n N U ⟨ι2,S2,ρ2,hn,hi',e2,rep2,re2,c2⟩;by_cases hlt:i<it.items.length
 ·have hd:it.items.drop i=it.items[i]::it.items.drop (i+1):=P9 hlt;rw[hd]at c2;have O:cont X.K E (do iJ it;let ρ1<-g it.items[i] ρ2;let o<-b ρ1;match o with| .nx ρ'=>gz it g b (it.items.drop (i+1)) ρ'| .ct ρ'=>gz it g b (it.items.drop (i+1)) ρ'| .bk ρ'=>aC (.nx ρ')| .ret r=>aC (.ret r)) ι2 S2 U (IR X.K T):=c2;obtain⟨ok,y⟩:=ko O rep2;obtain⟨s,b4⟩:=l ι2 U S2 e2.n rep2 ok i;obtain⟨go,k⟩:=s it.items[i] (NR hlt);refine .inr ⟨go,λR Y=>∃ ι3 S3 ρ3,Ext W C ι3 Y/\Rep X.K ι3 Y S3/\RelE X.K ι3 Y ρ3 R/\cont X.K E (gz it g b (it.items.drop (i+1)) ρ3) ι3 S3 Y (IR X.K T),?_,λx H3 hy=>?_⟩
  ·rintro R Y ⟨ι3,S3,ρ3,G,rep3,re3,B⟩;exact⟨_,by omega,ι3,S3,ρ3,rfl,hlt,G,rep3,re3,B⟩
  ·obtain⟨G,rep3,a⟩:=k x H3 hy;refine⟨ι2,S2,ρ2,it.items[i],rep3,re2.later rep2 G,a,az (av (kP y G)) λz u S4 H4 f L B b5 q=>?_⟩;refine⟨u,S4,z,L,q,az (av B) λo Q p H5 e5 Z F=>?_⟩;have I:Ext W C Q H5:=e2.trans (G.trans (f.trans e5));cases o with
   |nx ρ'=>exact λv P=>⟨Q,p,ρ',I,Z,P,F⟩
   |ct ρ'=>exact λv P=>⟨Q,p,ρ',I,Z,P,F⟩
   |bk ρ'=>exact ao F .refl Z
   |ret d=>exact ao F .refl Z
 ·have hd:it.items.drop i=[]:=Qw (by omega);rw[hd]at c2;have O:cont X.K E (do iJ it;aC (.nx ρ2)) ι2 S2 U (IR X.K T):=c2;obtain⟨ok,y⟩:=ko O rep2;exact .inl ⟨(l ι2 U S2 e2.n rep2 ok i).2 (by omega),ao y .refl rep2 N re2⟩
def lZ(t:aE->M Bool)(b:cL):Nat->aE->M Out
 |0,_=>M.fail
 | k+1,ρ=>do
  let c<-t ρ
  if c=b_ then do
   let o<-b ρ
   match o with
   | .nx ρ'=>lZ t b k ρ'
   | .ct ρ'=>lZ t b k ρ'
   | .bk ρ'=>aC (.nx ρ')
   | .ret r=>aC (.ret r)
  else aC (.nx ρ)
theorem Dp(k:Nat)(z:P_ (er X.prog X.w) X.A X.env X.xe)(F:SB X E e t)(y:yO X E body b):SS X E (.While e body [] pos) (λρ=>lZ t b k ρ):=by
 refine PS.imp (C1 z F y) λT σ H h=>?_;obtain⟨C,S,ρ,rep,re,c⟩:=h;refine⟨λn U P=>∃ ι2 S2 ρ2,Rep X.K ι2 P S2/\RelE X.K ι2 P ρ2 U/\cont X.K E (lZ t b n ρ2) ι2 S2 P (IR X.K T),⟨k,C,S,ρ,rep,re,c⟩,?_⟩;rintro n U P ⟨ι2,S2,ρ2,rep2,re2,c2⟩;cases n with
 |zero=>exact(au c2).elim
 | succ n=>
  refine⟨ι2,S2,ρ2,rep2,re2,az (av c2) λk N B v J rep3 I=>?_⟩;cases k with
  |false=>exact ao I .refl rep3 U (re2.later rep2 J)
  |true=>
   refine⟨λW Y=>∃ ι2 S2 ρ2,Rep X.K ι2 Y S2/\RelE X.K ι2 Y ρ2 W/\cont X.K E (lZ t b n ρ2) ι2 S2 Y (IR X.K T),λW Y h=>⟨n,PX _,h⟩,?_⟩;refine⟨N,B,ρ2,rep3,re2.later rep2 J,az (av I) λo Q G x u Z O=>?_⟩;cases o with
   |nx ρ'=>exact λL R=>⟨Q,G,ρ',Z,R,O⟩
   |ct ρ'=>exact λL R=>⟨Q,G,ρ',Z,R,O⟩
   |bk ρ'=>exact ao O .refl Z
   |ret d=>exact ao O .refl Z
end
def dP(H:Hp)(p:b'):Hp:=λa=>if a=p then none else H a
theorem hide_ne{H:Hp}(h:a≠p):dP H p a=H a:=if_neg h
theorem mT:dP H p p=none:=if_pos rfl
theorem c9{H:Hp}(h:dP H p a=ar o):a≠p/\H a=ar o:=by
 by_cases e:a=p
 ·rw[e,mT]at h;cases h
 ·rw[hide_ne e]at h;exact⟨e,h⟩
theorem xm{H:Hp}(h:H p=ar o):upd (dP H p) p o=H:=by
 funext a;by_cases e:a=p
 ·rw[e,bf,h]
 ·rw[aO e,hide_ne e]
theorem eR:dP (upd H p o) p=dP H p:=by
 funext a;by_cases e:a=p
 ·rw[e,mT,mT]
 ·rw[hide_ne e,hide_ne e,aO e]
theorem i8{H:Hp}(h:H p=none):dP H p=H:=by
 funext a;by_cases e:a=p
 ·rw[e,mT,h]
 ·rw[hide_ne e]
section
variable {K:cC}{ι ι':List b'}{H H':Hp}{S:aK}{p:b'}
mutual
theorem RelD.hide(Z:H p=ar (.lst ws)):∀{d:D} {v:V},RelD K ι H d v->RelD K ι (dP H p) d v
 |_,_,.non=>.non
 |_,_,.bl b=>.bl b
 |_,_,.int i=>.int i
 |_,_,.str x=>.str x
 |_,_,.tup h hs=>.tup (by rw[hide_ne (λz=>by rw[z,Z]at h;cases h)];exact h) (RelDs.hide Z hs)
 |_,_,.lst h=>.lst h
 |_,_,.ro h hs=>.ro (h.imp (λ⟨o,h⟩=>⟨o,by rw[hide_ne (λz=>by rw[z,Z]at h;cases h)];exact h⟩) λz=>z) (RelDs.hide Z hs)
 |_,_,.emp h=>.emp (by rw[hide_ne (λz=>by rw[z,Z]at h;cases h)];exact h)
 |_,_,.fn h hs=>.fn (by rw[hide_ne (λz=>by rw[z,Z]at h;cases h)];exact h) (RelDs.hide Z hs)
 |_,_,.exc n h=>.exc n (by rw[hide_ne (λz=>by rw[z,Z]at h;cases h)];exact h)
 |_,_,.excF n h h2 hn hs=>.excF n (by rw[hide_ne (λz=>by rw[z,Z]at h;cases h)];exact h) (by rw[hide_ne (λz=>by rw[z,Z]at h2;cases h2)];exact h2) hn (RelDs.hide Z hs)
 |_,_,.fz h hs=>.fz (by rw[hide_ne (λz=>by rw[z,Z]at h;cases h)];exact h) (RelDs.hide Z hs)
theorem RelDs.hide(Z:H p=ar (.lst ws)):∀{ds:List D} {vs:List V},RelDs K ι H ds vs->RelDs K ι (dP H p) ds vs
 |_,_,.nil=>.nil
 |_,_,.cons h hs=>.cons (RelD.hide Z h) (RelDs.hide Z hs)
end
mutual
theorem RelD.unhide:∀{d:D} {v:V},RelD K ι (dP H p) d v->RelD K ι H d v
 |_,_,.non=>.non
 |_,_,.bl b=>.bl b
 |_,_,.int i=>.int i
 |_,_,.str x=>.str x
 |_,_,.tup h hs=>.tup (c9 h).2 (RelDs.unhide hs)
 |_,_,.lst h=>.lst h
 |_,_,.ro h hs=>.ro (h.imp (λ⟨o,h⟩=>⟨o,(c9 h).2⟩) λz=>z) (RelDs.unhide hs)
 |_,_,.emp h=>.emp (c9 h).2
 |_,_,.fn h hs=>.fn (c9 h).2 (RelDs.unhide hs)
 |_,_,.exc n h=>.exc n (c9 h).2
 |_,_,.excF n h h2 hn hs=>.excF n (c9 h).2 (c9 h2).2 hn (RelDs.unhide hs)
 |_,_,.fz h hs=>.fz (c9 h).2 (RelDs.unhide hs)
theorem RelDs.unhide:∀{ds:List D} {vs:List V},RelDs K ι (dP H p) ds vs->RelDs K ι H ds vs
 |_,_,.nil=>.nil
 |_,_,.cons h hs=>.cons (RelD.unhide h) (RelDs.unhide hs)
end
theorem RelE.hide(Z:H p=ar (.lst ws)):∀{ρ:aE} {σ:St},RelE K ι H ρ σ->RelE K ι (dP H p) ρ σ
 |_,_,.nil=>.nil
 |_,_,.cons h t=>.cons (λd z=>let ⟨v,e1,e2⟩:=h d z;⟨v,e1,e2.hide Z⟩) (RelE.hide Z t)
theorem RelE.unhide:∀{ρ:aE} {σ:St},RelE K ι (dP H p) ρ σ->RelE K ι H ρ σ
 |_,_,.nil=>.nil
 |_,_,.cons h t=>.cons (λd z=>let ⟨v,e1,e2⟩:=h d z;⟨v,e1,e2.unhide⟩) (RelE.unhide t)
theorem Rep.hide(Z:H p=ar (.lst ws))(Y:p∉ι)(r:Rep K ι H S):Rep K ι (dP H p) S:=
 ⟨r.nd,r.len,λk a xs e1 e2=>let ⟨vs,h1,h2⟩:=r.get k a xs e1 e2;⟨vs,by rw[hide_ne (λz=>Y (by rw[<-z];exact OC e1))];exact h1,h2.hide Z⟩,r.tab.mono λb o h n=>by rw[hide_ne (λz=>by subst z;rw[h]at Z;exact n ws (Oj Z))];exact h⟩
theorem Rep.unhide(r:Rep K ι (dP H p) S):Rep K ι H S:=
 ⟨r.nd,r.len,λk a xs e1 e2=>let ⟨vs,h1,h2⟩:=r.get k a xs e1 e2;⟨vs,(c9 h1).2,h2.unhide⟩,r.tab.mono λb o h _=>(c9 h).2⟩
theorem Ext.hide(e:Ext ι H ι' H'):Ext ι (dP H p) ι' (dP H' p):=
 ⟨e.ids,λa o h n t=>by obtain⟨Y,U⟩:=c9 h;obtain⟨Z,X⟩:=e.oth a o U n t;exact⟨by rw[hide_ne Y];exact Z,X⟩⟩
theorem Ext.unhide(e:Ext ι H ι' (dP H' p)):Ext ι H ι' H':=
 ⟨e.ids,λa o h n t=>by obtain⟨Z,Y⟩:=e.oth a o h n t;exact⟨(c9 Z).2,Y⟩⟩
theorem gC{E:XD}{α:Type}{c:M α}{U:List V}{Q:α->List b'->aK->Hp->Prop}(h:cont K di c ι S (dP H p) Q)(R:H p=ar (.lst U))(T:p∉ι):
  cont K E c ι S H (λa ι' Z H'=>H' p=ar (.lst U)/\p∉ι'/\Q a ι' Z (dP H' p)):=by
 obtain⟨r,Z,e,k⟩:=h;refine⟨r,Z,e,λι' H' x rep=>?_⟩;obtain⟨Y,X⟩:=x.oth p _ R T (by intro _ z;cases z);have:=k ι' (dP H' p) x.hide (rep.hide Y X);cases r with
 |ok a=>exact⟨Y,X,this⟩
 |ex y=>exact this.elim
end
def iK(js:List (Option Nat))(ρ:aE):aE:=js.map λo=>o.bind λj=>(ρ[j]?).join
theorem RelE.blk{K:cC}{U:List b'}{H:Hp}{ρ:aE}{X:St}(Y:RelE K U H ρ X):∀js:List (Option Nat),RelE K U H (iK js ρ) (pK js X)
 |[]=>.nil
 |none::js=>.cons (λd z=>by cases z) (RelE.blk Y js)
 | some j::js=>.cons (λd z=>by
   have Z:(ρ[j]?).join=ar d:=z;have:ρ[j]? =ar (ar d):=by
    cases q:ρ[j]? with
    |none=>rw[q]at Z;cases Z
    |some o=>rw[q]at Z;exact P6 ar Z
   obtain⟨v,e1,e2⟩:=Y.get this;refine⟨v,?_,e2⟩;show(X[j]?).join=ar v;rw[e1];rfl) (RelE.blk Y js)
def c0(it:Iter)(g:lR)(t:aE->M Bool)(m:TM):List D->aE->M (List D)
 |[],ρ=>do iJ it;aC []
 | d::ds,ρ=>do
  iJ it
  let ρ1<-g d ρ;let b<-t ρ1
  if b=b_ then do
   let y<-m ρ1;let ys<-c0 it g t m ds ρ1
   aC (y::ys)
  else c0 it g t m ds ρ1
def gM(it:Iter)(g:lR)(t:aE->M Bool)(m:TM)(ρ:aE):M (List D):=if it.items.length<=lim then c0 it g t m it.items ρ else M.fail
def J6(X:Cx)(E:XD)(ifs:List Expr)(t:aE->M Bool):Prop:=FA X ifs (AH X.K E t)
theorem cf:J6 X E [] (λ_=>aC b_):=λpins s σ H Q I h=>Gb pins s σ H Q I (by obtain⟨Z,S,ρ,rep,re,c⟩:=h;exact ao c .refl rep)
theorem dF(h:SB X E c t):J6 X E [c] t:=Gc h
section
variable {X:Cx}{scope:Scope}{Nc:List Str}{js:List (Option Nat)}{elt tg iter:Expr}{ifs:List Expr}{pos:Pos}{mi:aE->M Iter}{g:lR}{t:aE->M Bool}{m:TM}
theorem fg{α Z Y:Type}(c:M α)(f:α->M Z)(h:Z->M Y):((c>>=f)>>=h)=(c>>=λa=>f a>>=h):=by
 funext S;show M.bnd (M.bnd c f) h S=M.bnd c (λa=>M.bnd (f a) h) S;unfold M.bnd;cases c S with
 |none=>rfl
 |some r=>
  obtain⟨r,W⟩:=r;cases r<;>rfl
theorem aq{α Z:Type}(a:α)(f:α->M Z):(aC a>>=f)=f a:=rfl
theorem AI{α Z:Type}{c:Prop} [Decidable c](x y:M α)(f:α->M Z):((if c then x else y)>>=f)=if c then x>>=f else y>>=f:=by split<;>rfl
abbrev K2(js:List (Option Nat))(g:TG)(tt:TT)(te:TE)(σ:St)(Q:VK):It->Hp->Prop:=λJ H1=>∀p,H1 p=none->
 ∃W:Nat->Nat->St->Hp->Prop,(∃m,W 0 m (pK js σ) (upd H1 p (.lst [])))/\∀i m σc Hc,W i m σc Hc->
  (J.stop i Hc/\Q (.ref p) Hc)\/(J.go i Hc/\∃N:St->Hp->Prop,(∀ σ' H',N σ' H'->∃m',m'<m/\W (i+1) m' σ' H')/\∀x H',J.yld i Hc x H'->g x σc H' λσ2 H2=>tt σ2 H2 λb H3=>
   if b=b_ then te σ2 H3 λy H4=>∃xs,H4 p=ar (.lst xs)/\xs.length<sizeLine/\N σ2 (upd H4 p (.lst (xs++[y])))else N σ2 H3)
theorem Dq{Q:VK}{d:St}{H:Hp}{u:List b'}{S:aK}{ρ:aE}(l:Rep X.K u H S)(re:RelE X.K u H ρ d)(c:cont X.K di (do let it<-mi ρ;let ys<-gM it g t m (iK js ρ);bQ ys) u S H (nB X.K Q)):
  cont X.K di (mi ρ) u S H (λit Y _ T=>∀J,j8 X.K it J Y T->K2 js (Dm X.K di g) (AH X.K di t) (tM X.K di m) d Q J T):=by
 refine az (av c) λit Y S1 T e1 rep1 c1 J hJ p C=>?_;have r:it.items.length<=lim/\cont X.K di (c0 it g t m it.items (iK js ρ)>>=λys=>bQ ys) Y S1 T (nB X.K Q):=by
  have U:cont X.K di ((if it.items.length<=lim then c0 it g t m it.items (iK js ρ)else M.fail)>>=λys=>bQ ys) Y S1 T (nB X.K Q):=c1;by_cases h:it.items.length<=lim
  ·rw[if_pos h]at U;exact⟨h,U⟩
  ·rw[if_neg h]at U;exact(au (av U)).elim
 obtain⟨hlen,c1⟩:=r;have q:RelE X.K Y T (iK js ρ) (pK js d):=(re.later l e1).blk js;refine⟨λi n A W=>∃ ι2 S2 ρ2 xs vs,n=it.items.length - i/\i<=it.items.length/\Ext Y T ι2 (dP W p)/\Rep X.K ι2 (dP W p) S2/\RelE X.K ι2 (dP W p) ρ2 A/\W p=ar (.lst vs)/\p∉ι2/\RelDs X.K ι2 (dP W p) xs vs/\xs.length<=i/\
  cont X.K di (c0 it g t m (it.items.drop i) ρ2>>=λys=>bQ (xs++ys)) ι2 S2 (dP W p) (nB X.K Q),⟨_,Y,S1,iK js ρ,[],[],rfl,Og _,?_,?_,?_,bf,rep1.free C,.nil,Og _,?_⟩,?_⟩
 ·rw[eR,i8 C];exact .refl
 ·rw[eR,i8 C];exact rep1
 ·rw[eR,i8 C];exact q
 ·rw[eR,i8 C];exact c1
 rintro i n A W ⟨ι2,S2,ρ2,xs,vs,hn,hi',e2,rep2,re2,hpc,hpn,rx,hlim,c2⟩;by_cases hlt:i<it.items.length
 ·have hd:it.items.drop i=it.items[i]::it.items.drop (i+1):=P9 hlt;rw[hd]at c2;have N:cont X.K di (iJ it>>=λ_=>g it.items[i] ρ2>>=λZ=>t Z>>=λb=>if b=b_ then m Z>>=λy=>c0 it g t m (it.items.drop (i+1)) Z>>=λys=>bQ (xs++y::ys)else c0 it g t m (it.items.drop (i+1)) Z>>=λys=>bQ (xs++ys)) ι2 S2 (dP W p) (nB X.K Q):=by
   have:(c0 it g t m (it.items[i]::it.items.drop (i+1)) ρ2>>=λys=>bQ (xs++ys))=(iJ it>>=λ_=>g it.items[i] ρ2>>=λZ=>t Z>>=λb=>if b=b_ then m Z>>=λy=>c0 it g t m (it.items.drop (i+1)) Z>>=λys=>bQ (xs++y::ys)else c0 it g t m (it.items.drop (i+1)) Z>>=λys=>bQ (xs++ys)):=by show((iJ it>>=λ_=>g it.items[i] ρ2>>=λZ=>t Z>>=λb=>if b=b_ then m Z>>=λy=>c0 it g t m (it.items.drop (i+1)) Z>>=λys=>aC (y::ys)else c0 it g t m (it.items.drop (i+1)) Z)>>=λys=>bQ (xs++ys))=_;simp only[fg,AI,aq]
   rw[<-this];exact c2
  obtain⟨ok,s⟩:=ko N rep2;obtain⟨e,b1⟩:=hJ ι2 W S2 e2.unhide.n rep2.unhide ok i;obtain⟨go,yl⟩:=e it.items[i] (NR hlt);refine .inr ⟨go,λB I=>∃ ι3 S3 ρ3 xs3 vs3,Ext Y T ι3 (dP I p)/\Rep X.K ι3 (dP I p) S3/\RelE X.K ι3 (dP I p) ρ3 B/\I p=ar (.lst vs3)/\p∉ι3/\RelDs X.K ι3 (dP I p) xs3 vs3/\xs3.length<=i+1/\
   cont X.K di (c0 it g t m (it.items.drop (i+1)) ρ3>>=λys=>bQ (xs3++ys)) ι3 S3 (dP I p) (nB X.K Q),?_,λx a hy=>?_⟩
  ·rintro B I ⟨ι3,S3,ρ3,xs3,vs3,h1,h2,h3,h4,h5,h6,h7,h8⟩;exact⟨_,by omega,ι3,S3,ρ3,xs3,vs3,rfl,hlt,h1,h2,h3,h4,h5,h6,h7,h8⟩
  ·obtain⟨k,rep3,rd⟩:=yl x a hy;obtain⟨j,_⟩:=k.oth p _ hpc hpn (by intro _ z;cases z);have w:Ext ι2 (dP W p) ι2 (dP a p):=k.hide;have c4:=av (kP s w);refine⟨ι2,S2,ρ2,it.items[i],rep3,re2.unhide.later rep2.unhide k,rd,az (gC (E:=di) c4 j hpn) λρ4 ι4 S4 H4 e4 rep4 ⟨hp4,hn4,c5⟩ σ4 re4=>?_⟩;have o:Rep X.K ι4 (dP H4 p) S4:=rep4.hide hp4 hn4;have f:Ext ι2 (dP W p) ι4 (dP H4 p):=w.trans e4.hide;refine⟨ι4,S4,ρ4,rep4,re4,az (gC (E:=di) (av c5) hp4 hn4) λb ι5 S5 H5 e5 rep5 ⟨hp5,hn5,c6⟩=>?_⟩;have G:Rep X.K ι5 (dP H5 p) S5:=rep5.hide hp5 hn5;have O:Ext ι2 (dP W p) ι5 (dP H5 p):=f.trans e5.hide;have R:RelE X.K ι5 H5 ρ4 σ4:=re4.later rep4 e5;cases b with
   |false=>
    have P:cont X.K di (c0 it g t m (it.items.drop (i+1)) ρ4>>=λys=>bQ (xs++ys)) ι5 S5 (dP H5 p) (nB X.K Q):=c6;exact⟨ι5,S5,ρ4,xs,vs,e2.trans O,G,R.hide hp5,hp5,hn5,rx.later rep2 O,by omega,P⟩
   |true=>
    have P:cont X.K di (m ρ4>>=λy=>c0 it g t m (it.items.drop (i+1)) ρ4>>=λys=>bQ (xs++y::ys)) ι5 S5 (dP H5 p) (nB X.K Q):=c6;refine⟨ι5,S5,ρ4,rep5,R,az (gC (E:=di) (av P) hp5 hn5) λy ι6 S6 H6 e6 rep6 ⟨hp6,hn6,c7⟩ yv ry=>?_⟩;have v:Ext ι2 (dP W p) ι6 (dP H6 p):=O.trans e6.hide;have L:Rep X.K ι6 (dP H6 p) S6:=rep6.hide hp6 hn6;have F:=rx.later rep2 v;have hl:vs.length<sizeLine:=by rw[<-F.length];exact PZ (by omega) Dn
    refine⟨vs,hp6,hl,ι6,S6,ρ4,xs++[y],vs++[yv],?_⟩;rw[eR];refine⟨e2.trans v,L,(R.later rep5 e6).hide hp6,bf,hn6,F.append (.cons (ry.hide hp6) .nil),by simp;omega,by simpa using c7⟩
 ·have hd:it.items.drop i=[]:=Qw (by omega);rw[hd]at c2;have N:cont X.K di (iJ it>>=λ_=>bQ (xs++[])) ι2 S2 (dP W p) (nB X.K Q):=by
   have:(c0 it g t m [] ρ2>>=λys=>bQ (xs++ys))=(iJ it>>=λ_=>bQ (xs++[])):=by show((iJ it>>=λ_=>aC [])>>=λys=>bQ (xs++ys))=_;simp only[fg,aq]
   rw[<-this];exact c2
  obtain⟨ok,s⟩:=ko N rep2;rw[Oi]at s;refine .inl ⟨(hJ ι2 W S2 e2.unhide.n rep2.unhide ok i).2 (by omega),?_⟩;have:=(bK s rep2 rx).2 p mT;rw[xm hpc]at this;exact this
theorem xo(h:tM X.K di (λρ=>do let it<-mi ρ;let ys<-gM it g t m (iK js ρ);bQ ys) σ H Q):
  AG (J5 X.K di mi) js (Dm X.K di g) (AH X.K di t) (tM X.K di m) σ H Q:=
 let ⟨ι,S,ρ,rep,re,c⟩:=h
 ⟨ι,S,ρ,rep,re,Dq rep re c⟩
theorem bu(c:CompScope X scope Nc js)(Y:X.calm=b_)(W:SI X di tg iter mi)
  (Z:∀C ex s H,SG (bp X scope Nc C ex s H) di tg g/\J6 (bp X scope Nc C ex s H) di ifs t/\SE (bp X scope Nc C ex s H) di elt m)
  (hs:∀x,gi iter X.env x=aC x:=by intro _;rfl):SE X di (.ListComp elt [⟨tg,iter,ifs,0⟩] scope pos) (λρ=>do let it<-mi ρ;let ys<-gM it g t m (iK js ρ);bQ ys):=
 PE.imp (Gd (g:=Dm X.K di g) (tt:=AH X.K di t) (te:=tM X.K di m) c Y W Z hs) λ_ _ _ q=>xo q
theorem gD(i:Nat)(O:X.N.Nodup)(c:CompScope X scope Nc js)(U:X.calm=b_)(P:SI X di tg iter mi)
  (Y:∀C ex s H,SG (bp X scope Nc C ex s H) di tg g/\J6 (bp X scope Nc C ex s H) di ifs t/\SE (bp X scope Nc C ex s H) di elt m)
  (Z:X.N[i]? =ar x:=by rfl) (R:Loc X.env.scope x:=by first|exact R_ rfl|exact L_ rfl)
  (W:nC (.ListComp elt [⟨tg,iter,ifs,0⟩] scope cpos) (ar (.Name x pos')) pos.line X.env=aC true:=by rfl)
  (L:X.fn x=b_\/X.env.scope.names.lookup x=ar .local:=by first|exact .inl rfl|exact .inr rfl|assumption)
  (hs:∀x,gi iter X.env x=aC x:=by intro _;rfl):SS X di (.Assign [.Name x pos'] (.ListComp elt [⟨tg,iter,ifs,0⟩] scope cpos) pos)
   (λρ=>do let d<-(do let it<-mi ρ;let ys<-gM it g t m (iK js ρ);bQ ys);aC (.nx (ρ.set i (ar d)))):=by
 refine PS.imp (zb (g:=Dm X.K di g) (tt:=AH X.K di t) (te:=tM X.K di m) O Z R c U P Y W L hs) λT σ H h=>?_;obtain⟨Q,S,ρ,rep,re,c⟩:=h;refine xo ⟨Q,S,ρ,rep,re,az (av c) λd J S1 I e1 rep1 c1 v r=>?_⟩;exact ao c1 .refl rep1 _ ((re.later rep e1).set r i)
end
section
variable {P:dV}{w:d_}{K:cC}{mg:Str->Option a_}{base:eg}
def outD:Out->M D
 | .nx _=>aC .non
 | .ret d=>aC d
 |_=>M.fail
def qx(N n:Nat)(m:cL):List D->M D:=λds=>if ds.length=n then do let o<-m (ds.map ar++k' (N - n) none);outD o else M.fail
end
def tR(f:Int->Int->M D):D->D->M D
 | .int i,.int j=>f i j
 |_,_=>M.fail
theorem kR{K:cC}{E:XD}{g:Int->Int->V}{f:Int->Int->D}(Y:∀Z H i j,RelD K Z H (f i j) (g i j)):wX K E (tR λi j=>aC (f i j)) (Fy g):=by
 intro Z S H d1 X v1 v2 Q rep T U c;cases d1<;>cases X<;>first
  |exact(au c).elim
  |exact⟨_,_,T.int_inv,U.int_inv,ao c .refl rep _ (Y _ _ _ _)⟩
theorem oB{K:cC}{E:XD}{C:Int->Int->Prop} [∀i j,Decidable (C i j)]{g:Int->Int->V}{f:Int->Int->D}(X:∀Y H i j,RelD K Y H (f i j) (g i j)):wX K E (tR λi j=>if C i j then aC (f i j)else M.fail) (rI C g):=by
 intro Y S H d1 U v1 v2 Q rep R T c;cases d1<;>cases U<;>first
  |exact(au c).elim
  | (next i j=>
    have Z:cont K E (if C i j then aC (f i j)else M.fail) Y S H (nB K Q):=c;by_cases h:C i j
    ·rw[if_pos h]at Z;exact⟨_,_,R.int_inv,T.int_inv,h,ao Z .refl rep _ (X _ _ _ _)⟩
    ·rw[if_neg h]at Z;exact(au Z).elim)
def i9:D->D->M D:=tR λi j=>aC (.int (i - j))
instance:∀i j,Decidable (yT i j):=λi j=>inferInstanceAs (Decidable (_\/_))
instance:∀i j,Decidable (BJ i j):=λi j=>inferInstanceAs (Decidable (_/\_))
instance:∀i j,Decidable (FU i j):=λi j=>inferInstanceAs (Decidable (_/\_))
def vx:D->D->M D:=tR λi j=>if yT i j then aC (.int (i*j))else M.fail
def oC:D->D->M D:=tR λi j=>if BJ i j then aC (.int (i / j))else M.fail
def ny:D->D->M D:=tR λi j=>if 0<j then aC (.int (i % j))else M.fail
def Ds:D->D->M D:=tR λi j=>if FU i j then aC (.int (i ^ j.toNat))else M.fail
def cW:D->D->M D
 | .int i,.int j=>aC (.int (i+j))
 | .tup xs,.tup ys=>bw (xs++ys)
 | .lst a,.lst b=>do let xs<-getL a;let ys<-getL b;bQ (xs++ys)
 | .lst a,.fz ys=>do let xs<-getL a;bQ (xs++ys)
 | .fz xs,.lst b=>do let ys<-getL b;bQ (xs++ys)
 | .fz xs,.fz ys=>bQ (xs++ys)
 |_,_=>M.fail
def Gh:D->D->M D:=tR λi j=>aC (.bl (decide (i<=j)))
def xp:D->D->M D:=tR λi j=>aC (.bl (decide (j<i)))
def Hy:D->D->M D:=tR λi j=>aC (.bl (decide (j<=i)))
section
variable {X:Cx}{E:XD}{a b e c:Expr}{m n l:TM}{pos:Pos}
theorem nM(Y:SE X E a m)(Z:SE X E b n):SE X E (.BinOp a .Sub b pos) (λρ=>do let x<-m ρ;let y<-n ρ;i9 x y):=ux Iw (kR λ_ _ _ _=>.int _) Y Z
theorem rW(Y:SE X E a m)(Z:SE X E b n):SE X E (.BinOp a .Mult b pos) (λρ=>do let x<-m ρ;let y<-n ρ;vx x y):=ux Iy (oB λ_ _ _ _=>.int _) Y Z
theorem vy(Y:SE X E a m)(Z:SE X E b n):SE X E (.BinOp a .FloorDiv b pos) (λρ=>do let x<-m ρ;let y<-n ρ;oC x y):=ux FV (oB λ_ _ _ _=>.int _) Y Z
theorem l9(Y:SE X E a m)(Z:SE X E b n):SE X E (.BinOp a .Mod b pos) (λρ=>do let x<-m ρ;let y<-n ρ;ny x y):=ux Iz (oB (C:=λ_ j=>0<j) λ_ _ _ _=>.int _) Y Z
theorem Dt(Y:SE X E a m)(Z:SE X E b n):SE X E (.BinOp a .Pow b pos) (λρ=>do let x<-m ρ;let y<-n ρ;Ds x y):=ux IA (oB λ_ _ _ _=>.int _) Y Z
theorem Du:j5 X (q_ .Add) (λx y H Q=>∃a b ys,x= .ref a/\y= .ref b/\mR X.K H a []/\mR X.K H b ys/\Q (.ref b) H):=by
 intro pins s σ H x y v u Q I O B h;obtain⟨a,b,ys,rfl,rfl,G,N,q⟩:=h;cases O;cases B;obtain⟨its,A,L,_⟩:=I.tuple G;obtain⟨Z,z,J,_⟩:=I.tuple N;cases A;obtain⟨⟨cls,dd,data,F⟩,R,S,n,hd⟩:=id L;obtain⟨⟨P,U,data2,T⟩,W,Y,C,hd2⟩:=id J;simp only at S hd Y hd2;subst S hd Y hd2;exact RS ⟨_,R,rfl⟩ ⟨_,W,rfl⟩ Rq RJ Qv Qn (Qk _ _)
  (tuple_addW0 a b #[] Z.toArray n C dd U F T (by simp)) ⟨R,W,⟨.ref b,H,I,rfl,q⟩⟩
theorem Inv.lstR{X:Cx}{Z:List (b'×Obj)}{W:L2.St}{H:Hp}{s:cn}{l:b'}{xs:List V}(I:L2.Inv X Z W H s)(Y:Rd H l (.lst xs)):xs.length<=sizeLine/\∃(its:List a_) (n:Nat),bJ xs its/\xs.length=its.length/\s.heap.get? l=ar {cls:=.type "list",data:=.seq its.toArray n}:=by obtain⟨z,its,n,r,e⟩:=Y.ok I.hok;exact⟨z,its,n,r,r.length,e⟩
def K3:R2:=λx y H Q=>∃l b xs zs,x= .ref l/\y= .ref b/\Rd H l (.lst xs)/\Rd H b (.lst zs)/\xs.length+zs.length<=sizeLine/\∀p,H p=none->Q (.ref p) (upd H p (.lst (xs++zs)))
theorem Gi:j5 X (q_ .Add) K3:=by
 intro pins s σ H x y v u Q I Y R h;obtain⟨l,b,xs,zs,rfl,rfl,W,S,J,q⟩:=h;cases Y;cases R;obtain⟨z,its,n,r,L,e⟩:=Inv.lstR I W;obtain⟨N,Z,K,U,O,e2⟩:=Inv.lstR I S;refine PySem.P.add_list e e2 ?_ (by rw[N5,N5];omega);have T:its.toArray++Z.toArray=(its++Z).toArray:=by simp
 rw[T];exact⟨.ref _,_,I.lnew (t':=s.toks) (r.append U) (by rw[NP];omega),rfl,q _ I.fresh⟩
theorem eS(C:SE X E a m)(F:SE X E b n):SE X E (.BinOp a .Add b pos) (λρ=>do let x<-m ρ;let y<-n ρ;cW x y):=by
 refine ux (Iv.or (F6.or (Du.or Gi))) ?_ C F;intro B S H d1 G v1 v2 Q rep O P c;cases d1<;>cases G<;>first
  |exact(au c).elim
  |exact .inl ⟨_,_,O.int_inv,P.int_inv,ao c .refl rep _ (.int _)⟩
  | (next xs ys=>
    obtain⟨p,vs,rfl,W,N⟩:=O.tup_inv;obtain⟨q,ws,rfl,U,L⟩:=P.tup_inv;obtain⟨Y,T⟩:=i5 c rep (N.append L);rw[NP]at Y;cases vs with
    |nil=>
     refine .inr (.inr (.inl ⟨p,q,ws,rfl,rfl,.of W,.of U,?_⟩));exact kN c rep U (N.append L)
    |cons v vs=>
     refine .inr (.inl ⟨p,q,v::vs,ws,rfl,rfl,.of W,.of U,by simp,NZ Y hZ,λz=>?_,λ_=>T⟩);subst z;have:=N.append L;rw[Oi]at this;exact kN c rep W this)
  | (next j k=>
    obtain⟨p,rfl,W⟩:=O.lst_inv;obtain⟨q,rfl,U⟩:=P.lst_inv;obtain⟨ds,vs,_,J,R,c1⟩:=bI c rep W;obtain⟨es,ws,_,hw,Z,I⟩:=bI c1 rep U;obtain⟨Y,T⟩:=bK I rep (R.append Z);rw[NP]at Y;exact .inr (.inr (.inr ⟨p,q,vs,ws,rfl,rfl,.inl J,.inl hw,NZ Y hZ,T⟩)))
  | (next j ys=>
    obtain⟨p,rfl,W⟩:=O.lst_inv;obtain⟨q,o2,ws,rfl,U,Z⟩:=P.fz_inv;obtain⟨ds,vs,_,J,R,c1⟩:=bI c rep W;obtain⟨Y,T⟩:=bK c1 rep (R.append Z);rw[NP]at Y;exact .inr (.inr (.inr ⟨p,q,vs,ws,rfl,rfl,.inl J,.inr ⟨o2,U⟩,NZ Y hZ,T⟩)))
  | (next xs k=>
    obtain⟨p,K,vs,rfl,W,R⟩:=O.fz_inv;obtain⟨q,rfl,U⟩:=P.lst_inv;obtain⟨es,ws,_,hw,Z,I⟩:=bI c rep U;obtain⟨Y,T⟩:=bK I rep (R.append Z);rw[NP]at Y;exact .inr (.inr (.inr ⟨p,q,vs,ws,rfl,rfl,.inr ⟨K,W⟩,.inl hw,NZ Y hZ,T⟩)))
  | (next xs ys=>
    obtain⟨p,K,vs,rfl,W,R⟩:=O.fz_inv;obtain⟨q,o2,ws,rfl,U,Z⟩:=P.fz_inv;obtain⟨Y,T⟩:=bK c rep (R.append Z);rw[NP]at Y;exact .inr (.inr (.inr ⟨p,q,vs,ws,rfl,rfl,.inr ⟨K,W⟩,.inr ⟨o2,U⟩,NZ Y hZ,T⟩)))
theorem K4(Y:SE X E a m)(Z:SE X E b n):SE X E (.Compare a [.LtE] [b] pos) (λρ=>do let x<-m ρ;let y<-n ρ;Gh x y):=pM Ay (kR λ_ _ _ _=>.bl _) Y Z
theorem uz(Y:SE X E a m)(Z:SE X E b n):SB X E (.Compare a [.Gt] [b] pos) (λρ=>do let z<-(do let x<-m ρ;let y<-n ρ;xp x y);n4 z):=kO KC (kR λ_ _ _ _=>.bl _) Y Z
theorem Dv(Y:SE X E a m)(Z:SE X E b n):SB X E (.Compare a [.GtE] [b] pos) (λρ=>do let z<-(do let x<-m ρ;let y<-n ρ;Hy x y);n4 z):=kO KD (kR λ_ _ _ _=>.bl _) Y Z
def intsOf:List D->Option (List Int)
 |[]=>ar []
 | .int i::r=>(intsOf r).map (i::·)
 |_=>none
theorem fT{K:cC}{Y:List b'}{H:Hp}:∀{ds:List D} {vs:List V} {ns:List Int},RelDs K Y H ds vs->intsOf ds=ar ns->vs=ns.map V.int
 |[],vs,ns,h,e=>by cases e;rw[h.nil_inv];rfl
 | .int i::ds,vs,ns,h,e=>by
  obtain⟨v,ws,rfl,U,Z⟩:=h.cons_inv;cases q:intsOf ds with
  |none=>simp[intsOf,q]at e
  |some ks=>
   simp[intsOf,q]at e;subst e;rw[U.int_inv,fT Z q];rfl
 | .non::_,_,_,_,e=>by cases e
 | .bl _::_,_,_,_,e=>by cases e
 | .str _::_,_,_,_,e=>by cases e
 | .tup _::_,_,_,_,e=>by cases e
 | .lst _::_,_,_,_,e=>by cases e
 | .ro _::_,_,_,_,e=>by cases e
 | .fz _::_,_,_,_,e=>by cases e
 | .emp::_,_,_,_,e=>by cases e
def xq:D->D->M D
 | .int i,.int j=>aC (.bl (decide (i<j)))
 | .tup xs,.tup ys=>match intsOf xs,intsOf ys with
  |some ns,ar ms=>aC (.bl (HT.lexLt ns ms))
  |_,_=>M.fail
 |_,_=>M.fail
theorem zh:wX X.K E xq (λx y H Q=>Fy (λi j=>.bl (decide (i<j))) x y H Q\/KL X.K x y H Q):=by
 intro O S H d1 T v1 v2 Q rep Y Z c;cases d1<;>cases T<;>first
  |exact(au c).elim
  |exact .inl ⟨_,_,Y.int_inv,Z.int_inv,ao c .refl rep _ (.bl _)⟩
  | (next xs ys=>
    obtain⟨p,vs,rfl,U,W⟩:=Y.tup_inv;obtain⟨q,ws,rfl,R,P⟩:=Z.tup_inv;dsimp only[xq]at c;split at c
    ·next ns ms e1 e2=>
     refine .inr ⟨p,q,ns,ms,rfl,rfl,.of (by rw[<-fT W e1];exact U),.of (by rw[<-fT P e2];exact R),ao c .refl rep _ (.bl _)⟩
    ·exact(au c).elim)
theorem Dw(Y:X.A.units<xy)(W:SE X E a m)(Z:SE X E b n):SE X E (.Compare a [.Lt] [b] pos) (λρ=>do let x<-m ρ;let y<-n ρ;xq x y):=pM (C4.or (y0 Y)) zh W Z
theorem AJ(Y:X.A.units<xy)(W:SE X E a m)(Z:SE X E b n):SB X E (.Compare a [.Lt] [b] pos) (λρ=>do let z<-(do let x<-m ρ;let y<-n ρ;xq x y);n4 z):=kO (C4.or (y0 Y)) zh W Z
theorem xr(t:wX X.K E f r)(A:wX X.K E g r')
  (h:tM X.K E (λρ=>do let x<-m ρ;let y<-n ρ;let z<-f x y;let k<-n4 z;if k=b_ then do let w<-l ρ;g y w else aC (.bl c_)) σ H Q):yU r r' (tM X.K E m) (tM X.K E n) (tM X.K E l) σ H Q:=by
 obtain⟨G,S,ρ,rep,re,c⟩:=h;refine⟨G,S,ρ,rep,re,az (av c) λx W S1 p e1 rep1 c1 v1 q=>?_⟩;refine⟨W,S1,ρ,rep1,re.later rep e1,az (av c1) λy T S2 N e2 rep2 u v2 P=>?_⟩;refine t T S2 N x y v1 v2 _ rep2 (q.later rep1 e2) P (az (av u) λz Y F o O rep3 v j L=>?_);obtain⟨k,rfl,rfl,R⟩:=vv rep3 L v;refine⟨k,rfl,?_⟩;cases k with
 |true=>
  exact⟨Y,F,ρ,rep3,((re.later rep e1).later rep1 e2).later rep2 O,az (av R) λw U C s J Z B v4 I=>A U C s y w v2 v4 Q Z ((P.later rep2 O).later rep3 J) I B⟩
 |false=>exact ao R .refl rep3 _ (.bl c_)
theorem Dx(h:j5 X (hh op) r)(h':j5 X (hh op') r')(T:wX X.K E f r)(S:wX X.K E g r')(W:SE X E a m)(Z:SE X E b n)(Y:SE X E c l)
  (U:R7 [op,op'] [b,c]=false:=by with_unfolding_all rfl):
  SE X E (.Compare a [op,op'] [b,c] pos) (λρ=>do let x<-m ρ;let y<-n ρ;let z<-f x y;let k<-n4 z;if k=b_ then do let w<-l ρ;g y w else aC (.bl c_)):=
 PE.imp (C6 h h' W Z Y U) λ_ _ _ q=>xr T S q
theorem Dy(h:j5 X (hh op) r)(h':j5 X (hh op') r')(N:wX X.K E f r)(J:wX X.K E g r')(Y:SE X E a m)(T:SE X E b n)(Z:SE X E c l)
  (R:R7 [op,op'] [b,c]=false:=by with_unfolding_all rfl):
  SB X E (.Compare a [op,op'] [b,c] pos) (λρ=>do let v<-(do let x<-m ρ;let y<-n ρ;let z<-f x y;let k<-n4 z;if k=b_ then do let w<-l ρ;g y w else aC (.bl c_));n4 v):=
 PT.imp (C7 h h' Y T Z R) λσ H Q q=>by obtain⟨W,S,ρ,rep,re,c⟩:=q;refine xr N J (Q:=λx U=>∃k,x= .bl k/\Q k U) ⟨W,S,ρ,rep,re,az (av c) λx L S1 I e1 rep1 c1 v1 O=>?_⟩;obtain⟨k,rfl,rfl,P⟩:=rT rep1 O c1;exact⟨k,rfl,P⟩
def b9:D->D->M D
 | .lst k,.int i=>do
  let xs<-getL k
  match kJ xs i with
  |some d=>aC d
  |none=>M.fail
 | .tup xs,.int i=>match kJ xs i with
  |some d=>aC d
  |none=>M.fail
 | .ro xs,.int i=>match kJ xs i with
  |some d=>aC d
  |none=>M.fail
 | .fz xs,.int i=>match kJ xs i with
  |some d=>aC d
  |none=>M.fail
 |_,_=>M.fail
theorem rm{K:cC}{Z:List b'}{H:Hp}{ds:List D}{vs:List V}{i:Int}{d:D}(h:RelDs K Z H ds vs)(e:kJ ds i=ar d):∃v,kJ vs i=ar v/\RelD K Z H d v:=by
 unfold kJ at e⊢;rw[h.length]at e;cases q:yM vs.length i with
 |none=>rw[q]at e;cases e
 |some j=>
  rw[q]at e;exact h.get' e
theorem IV:wX X.K E b9 (Nd X.K):=by
 intro P S H d1 T v1 v2 Q rep U W c;cases d1<;>cases T<;>first
  |exact(au c).elim
  | (next k i=>
    obtain⟨p,rfl,Z⟩:=U.lst_inv;obtain⟨ds,vs,_,R,Y,c1⟩:=bI c rep Z;cases q:kJ ds i with
    |none=>rw[q]at c1;exact(au c1).elim
    |some d=>
     rw[q]at c1;obtain⟨v,e1,e2⟩:=rm Y q;exact .inl ⟨p,vs,i,v,rfl,W.int_inv,.of R,e1,ao c1 .refl rep _ e2⟩)
  | (next ds i=>
    obtain⟨p,vs,rfl,Z,Y⟩:=U.tup_inv;dsimp only[b9]at c;cases q:kJ ds i with
    |none=>rw[q]at c;exact(au c).elim
    |some d=>
     rw[q]at c;obtain⟨v,e1,e2⟩:=rm Y q;exact .inr (.inl ⟨p,vs,i,v,rfl,W.int_inv,.of Z,e1,ao c .refl rep _ e2⟩))
  | (next ds i=>
    obtain⟨p,vs,rfl,Z,Y⟩:=U.ro_inv;dsimp only[b9]at c;cases q:kJ ds i with
    |none=>rw[q]at c;exact(au c).elim
    |some d=>
     rw[q]at c;obtain⟨v,e1,e2⟩:=rm Y q;exact .inl ⟨p,vs,i,v,rfl,W.int_inv,Z.sq,e1,ao c .refl rep _ e2⟩)
  | (next ds i=>
    obtain⟨p,o,vs,rfl,Z,Y⟩:=U.fz_inv;dsimp only[b9]at c;cases q:kJ ds i with
    |none=>rw[q]at c;exact(au c).elim
    |some d=>
     rw[q]at c;obtain⟨v,e1,e2⟩:=rm Y q;exact .inl ⟨p,vs,i,v,rfl,W.int_inv,.inl (.inr ⟨o,Z⟩),e1,ao c .refl rep _ e2⟩)
theorem aN(Y:SE X E a m)(Z:SE X E b n)(hs:vd b:=by intro _ _;rfl):SE X E (.Subscript a b pos) (λρ=>do let x<-m ρ;let y<-n ρ;b9 x y):=KU IK IV Y Z hs
end
mutual
inductive ReadsV(H:Hp):V->nf->Prop where
 |non:ReadsV H .non .none
 |bl (b:Bool):ReadsV H (.bl b) (.bool b)
 |int (i:Int):ReadsV H (.int i) (.int i)
 |str (x:Str):ReadsV H (.str x) (.str x)
 |lst {a:b'} {vs:List V} {ps:List nf}:Rd H a (.lst vs)->ReadsVs H vs ps->ReadsV H (.ref a) (.list ps)
 |tup {a:b'} {vs:List V} {ps:List nf}:H a=ar (.tup vs)->ReadsVs H vs ps->ReadsV H (.ref a) (.tuple ps)
inductive ReadsVs(H:Hp):List V->List nf->Prop where
 |nil:ReadsVs H [] []
 |cons {v:V} {p:nf} {vs:List V} {ps:List nf}:ReadsV H v p->ReadsVs H vs ps->ReadsVs H (v::vs) (p::ps)
end
mutual
theorem ReadsV.heap(Z:kh P w H h):∀{v:V} {p:nf},ReadsV H v p->∀{u:a_},RelV v u->∃as,Reads h u p as
 |_,_,.non,u,r=>by cases (show u=i_ from r);exact⟨_,.none⟩
 |_,_,.bl b,u,r=>by cases (show u=u4 b from r);exact⟨_,.bool b⟩
 |_,_,.int i,u,r=>by obtain⟨t,rfl⟩:=(show ∃t,u=u_ i t from r);exact⟨_,.int i t⟩
 |_,_,.str x,u,r=>by obtain⟨t,rfl⟩:=(show ∃t,u=R5 x t from r);exact⟨_,.str x t⟩
 |_,_,@ReadsV.lst _ a vs ps h1 h2,u,r=>by
  cases (show u=ey a from r);obtain⟨_,its,n,Y,e⟩:=(show cy P w H h a (.lst vs)from h1.ok Z);obtain⟨as,q⟩:=ReadsVs.heap Z h2 Y;exact⟨_,.list e rfl rfl (by simpa using q)⟩
 |_,_,@ReadsV.tup _ a vs ps h1 h2,u,r=>by
  cases (show u=ey a from r);obtain⟨_,its,Y,o,e,c,n,d⟩:=(show cy P w H h a (.tup vs)from Z a _ h1);obtain⟨as,q⟩:=ReadsVs.heap Z h2 Y;exact⟨_,.tuple e c d (by simpa using q)⟩
theorem ReadsVs.heap(Z:kh P w H h):∀{vs:List V} {ps:List nf},ReadsVs H vs ps->∀{us:List a_},bJ vs us->∃as,ReadsAll h us ps as
 |_,_,.nil,us,r=>by cases r;exact⟨_,.nil⟩
 | _,_,.cons h1 h2,us,r=>by
  cases r with
  |cons r1 r2=>
   obtain⟨as,q⟩:=ReadsV.heap Z h1 r1;obtain⟨bs,Y⟩:=ReadsVs.heap Z h2 r2;exact⟨_,.cons q Y⟩
end
def mapP(f:D->Option nf):List D->Option (List nf)
 |[]=>ar []
 |d::ds=>match f d,mapP f ds with
  |some p,ar ps=>ar (p::ps)
  |_,_=>none
def gO(S:aK):Nat->D->Option nf
 |_,.non=>ar .none
 |_,.bl b=>ar (.bool b)
 |_,.int i=>ar (.int i)
 |_,.str x=>if PyData.strOk x=b_ then ar (.str x)else none
 |n+1,.tup ds=>(mapP (gO S n) ds).map .tuple
 |n+1,.lst k=>(S[k]?).bind λxs=>(mapP (gO S n) xs).map .list
 |n+1,.fz ds=>(mapP (gO S n) ds).map .list
 |_,_=>none
section
variable {K:cC}{ι:List b'}{S:aK}{H:Hp}
theorem oE{f:D->Option nf}(Z:∀d p v,f d=ar p->RelD K ι H d v->ReadsV H v p/\p.canLay0=b_/\p.depth<=n):
  ∀{ds:List D} {ps:List nf} {vs:List V},mapP f ds=ar ps->RelDs K ι H ds vs->ReadsVs H vs ps/\PyData.canLayAll0 ps=b_/\la ps<=n
 |[],ps,vs,e,r=>by
  cases e;rw[r.nil_inv];exact⟨.nil,rfl,Og _⟩
 | d ::ds,ps,vs,e,r=>by
  obtain⟨v,ws,rfl,R,U⟩:=r.cons_inv;unfold mapP at e;cases q:f d with
  |none=>rw[q]at e;cases e
  | some p=>
   rw[q]at e;cases q2:mapP f ds with
   |none=>rw[q2]at e;cases e
   | some ps'=>
    rw[q2]at e;cases e;obtain⟨X,T,Y⟩:=Z d p v q R;obtain⟨k1,k2,k3⟩:=oE Z q2 U;refine⟨.cons X k1,?_,?_⟩
    ·show(PyData.canLay0 p && PyData.canLayAll0 ps')=b_;rw[T,k2];rfl
    ·show max p.depth (la ps')<=n;exact Nat.max_le.mpr ⟨Y,k3⟩
theorem mU(X:Rep K ι H S):∀(n:Nat) (d:D) (p:nf) (v:V),gO S n d=ar p->RelD K ι H d v->ReadsV H v p/\p.canLay0=b_/\p.depth<=n:=by
 intro n
 induction n with
 | zero=>
  intro d p v e r;cases d with
  |non=>cases e;rw[r.non_inv];exact⟨.non,rfl,NQ _⟩
  |bl b=>cases e;rw[r.bl_inv];exact⟨.bl b,rfl,NQ _⟩
  |int i=>cases e;rw[r.int_inv];exact⟨.int i,rfl,NQ _⟩
  |str x=>
   unfold gO at e;split at e
   ·next hs=>cases e;rw[r.str_inv];exact⟨.str x,hs,NQ _⟩
   ·cases e
  |_=>cases e
 | succ n ih=>
  intro d p v e r;cases d with
  |non=>cases e;rw[r.non_inv];exact⟨.non,rfl,Og _⟩
  |bl b=>cases e;rw[r.bl_inv];exact⟨.bl b,rfl,Og _⟩
  |int i=>cases e;rw[r.int_inv];exact⟨.int i,rfl,Og _⟩
  |str x=>
   unfold gO at e;split at e
   ·next hs=>cases e;rw[r.str_inv];exact⟨.str x,hs,Og _⟩
   ·cases e
  | tup ds=>
   obtain⟨a,vs,rfl,Z,Y⟩:=r.tup_inv;unfold gO at e;cases q:mapP (gO S n) ds with
   |none=>rw[q]at e;cases e
   |some ps=>
    rw[q]at e;cases e;obtain⟨k1,k2,k3⟩:=oE ih q Y;exact⟨.tup Z k1,k2,PV k3⟩
  | lst k=>
   obtain⟨a,rfl,Z⟩:=r.lst_inv;unfold gO at e;cases z:S[k]? with
   |none=>rw[z]at e;cases e
   | some xs=>
    rw[z]at e;obtain⟨vs,U,Y⟩:=X.get k a xs Z z;cases q:mapP (gO S n) xs with
    |none=>simp[q]at e
    |some ps=>
     simp[q]at e;subst e;obtain⟨k1,k2,k3⟩:=oE ih q Y;exact⟨.lst (.inl U) k1,k2,PV k3⟩
  |ro ds=>cases e
  | fz ds=>
   obtain⟨a,o,vs,rfl,Z,Y⟩:=r.fz_inv;unfold gO at e;cases q:mapP (gO S n) ds with
   |none=>rw[q]at e;cases e
   |some ps=>
    rw[q]at e;cases e;obtain⟨k1,k2,k3⟩:=oE ih q Y;exact⟨.lst (.inr ⟨o,Z⟩) k1,k2,PV k3⟩
  |emp=>cases e
  |fn a c q ds vs=>cases e
  |exc x ds=>cases e
end
def J7(f:nf->nf->Bool):D->D->M D:=λa b S=>match gO S 60 a,gO S 60 b with
 |some p,ar q=>ar (.ok (.bl (f p q)),S)
 |_,_=>none
def kH:D->D->M D:=J7 eo
def mW:D->D->M D:=J7 λp q=> !eo p q
def MM(f:Bool->Bool):nf->nf->Option Bool
 |d,.list xs=>ar (f (xs.any λy=>eo y d))
 |d,.tuple xs=>ar (f (xs.any λy=>eo y d))
 |_,_=>none
def J8(f:Bool->Bool):D->D->M D:=λa b S=>match gO S 60 a,gO S 60 b with
 |some p,ar q=>match MM f p q with
  |some r=>ar (.ok (.bl r),S)
  |none=>none
 |_,_=>none
def inD:D->D->M D:=J8 id
def rX:D->D->M D:=J8 (!·)
section
variable {X:Cx}{E:XD}{a b e:Expr}{m n:TM}{pos:Pos}
def IW(f:nf->nf->Bool):R2:=λx y H Q=>∃p q,(ReadsV H x p/\p.canLay0=b_/\p.depth<=60)/\(ReadsV H y q/\q.canLay0=b_/\q.depth<=60)/\Q (.bl (f p q)) H
theorem mX{p:nf}(h:p.canLay0=b_)(Z:p.depth<=60):SeqAt.shaped p=true:=by unfold SeqAt.shaped;rw[h,PP];exact N1 (by omega)
theorem Dz(W:X.A.units+64<xy):j5 X (hh .Eq) (IW eo):=by intro pins s σ H x y v u Q I Y P h;obtain⟨p,q,⟨S,R,L⟩,⟨Z,U,T⟩,h⟩:=h;obtain⟨as,N⟩:=S.heap I.hok Y;obtain⟨bs,O⟩:=Z.heap I.hok P;exact eq_dataH N O (mX R L) (mX U T) W ⟨.bl _,H,I,rfl,h⟩
theorem DA(W:X.A.units+64<xy):j5 X (hh .NotEq) (IW λp q=> !eo p q):=by intro pins s σ H x y v u Q I Y P h;obtain⟨p,q,⟨S,R,L⟩,⟨Z,U,T⟩,h⟩:=h;obtain⟨as,N⟩:=S.heap I.hok Y;obtain⟨bs,O⟩:=Z.heap I.hok P;exact ne_dataH N O (mX R L) (mX U T) W ⟨.bl _,H,I,rfl,h⟩
theorem rn:wX X.K E (J7 f) (IW f):=by
 intro W S H d1 Z v1 v2 Q rep U Y c;obtain⟨r,T,e,k⟩:=c;unfold J7 at e;split at e
 ·next p q hp hq=>
  cases e;exact⟨p,q,mU rep 60 d1 p v1 hp U,mU rep 60 Z q v2 hq Y,k W H .refl rep _ (.bl _)⟩
 ·cases e
theorem qy(Y:X.A.units+64<xy)(W:SE X E a m)(Z:SE X E b n):SE X E (.Compare a [.Eq] [b] pos) (λρ=>do let x<-m ρ;let y<-n ρ;kH x y):=pM (Dz Y) rn W Z
theorem K5(Y:X.A.units+64<xy)(W:SE X E a m)(Z:SE X E b n):SE X E (.Compare a [.NotEq] [b] pos) (λρ=>do let x<-m ρ;let y<-n ρ;mW x y):=pM (DA Y) rn W Z
theorem qz(Y:X.A.units+64<xy)(W:SE X E a m)(Z:SE X E b n):SB X E (.Compare a [.Eq] [b] pos) (λρ=>do let z<-(do let x<-m ρ;let y<-n ρ;kH x y);n4 z):=kO (Dz Y) rn W Z
theorem qA(Y:X.A.units+64<xy)(W:SE X E a m)(Z:SE X E b n):SB X E (.Compare a [.NotEq] [b] pos) (λρ=>do let z<-(do let x<-m ρ;let y<-n ρ;mW x y);n4 z):=kO (DA Y) rn W Z
def IX(f:Bool->Bool):R2:=λx y H Q=>∃p q r,(ReadsV H x p/\p.canLay0=b_/\p.depth<=60)/\(ReadsV H y q/\q.canLay0=b_/\q.depth<=60)/\MM f p q=ar r/\Q (.bl r) H
theorem vz:wX X.K E (J8 f) (IX f):=by
 intro W S H d1 Z v1 v2 Q rep U Y c;obtain⟨r,T,e,k⟩:=c;unfold J8 at e;split at e
 ·next p q hp hq=>
  split at e
  ·next r hr=>
   cases e;exact⟨p,q,r,mU rep 60 d1 p v1 hp U,mU rep 60 Z q v2 hq Y,hr,k W H .refl rep _ (.bl _)⟩
  ·cases e
 ·cases e
theorem rY(h:(pd xs).depth<=60):la xs<=60:=QD h
theorem mn(h:(wM xs).depth<=60):la xs<=60:=QD h
theorem DB(L:X.A.units+64<xy):j5 X (hh .In) (IX id):=by
 intro pins s σ H x y v u Q I P N h;obtain⟨p,q,r,⟨O,U,K⟩,⟨R,Y,W⟩,Z,h⟩:=h;obtain⟨as,S⟩:=O.heap I.hok P;obtain⟨bs,T⟩:=R.heap I.hok N;cases q with
 |list xs=>
  cases Z;exact SeqAt.in_list_reads T S Y U (by have:=rY W;have:min (la xs) p.depth<=60:=NZ (Qp _ _) this;omega) ⟨.bl _,H,I,rfl,h⟩
 |tuple xs=>
  cases Z;exact SeqAt.in_tuple_reads T S Y U (by have:=mn W;have:min (la xs) p.depth<=60:=NZ (Qp _ _) this;omega) ⟨.bl _,H,I,rfl,h⟩
 |_=>cases Z
theorem BX(L:X.A.units+64<xy):j5 X (hh .NotIn) (IX (!·)):=by
 intro pins s σ H x y v u Q I P N h;obtain⟨p,q,r,⟨O,U,K⟩,⟨R,Y,W⟩,Z,h⟩:=h;obtain⟨as,S⟩:=O.heap I.hok P;obtain⟨bs,T⟩:=R.heap I.hok N;cases q with
 |list xs=>
  cases Z;exact SeqAt.notIn_list_reads T S Y U (by have:=rY W;have:min (la xs) p.depth<=60:=NZ (Qp _ _) this;omega) ⟨.bl _,H,I,rfl,h⟩
 |tuple xs=>
  cases Z;exact SeqAt.notIn_tuple_reads T S Y U (by have:=mn W;have:min (la xs) p.depth<=60:=NZ (Qp _ _) this;omega) ⟨.bl _,H,I,rfl,h⟩
 |_=>cases Z
theorem uA(W:X.A.units+64<xy)(U:SE X E a m)(Y:SE X E b n)(Z:kT .In b=false:=by rfl):SE X E (.Compare a [.In] [b] pos) (λρ=>do let x<-m ρ;let y<-n ρ;inD x y):=pM (DB W) vz U Y Z
theorem rZ(W:X.A.units+64<xy)(U:SE X E a m)(Y:SE X E b n)(Z:kT .In b=false:=by rfl):SB X E (.Compare a [.In] [b] pos) (λρ=>do let z<-(do let x<-m ρ;let y<-n ρ;inD x y);n4 z):=kO (DB W) vz U Y Z
theorem DC(W:X.A.units+64<xy)(U:SE X E a m)(Y:SE X E b n)(Z:kT .NotIn b=false:=by rfl):SB X E (.Compare a [.NotIn] [b] pos) (λρ=>do let z<-(do let x<-m ρ;let y<-n ρ;rX x y);n4 z):=kO (BX W) vz U Y Z
end
section
variable {X:Cx}{E:XD}{a b e c:Expr}{m n l:TM}{pos p2:Pos}{es:List Expr}{ms:aE->M (List D)}
def zj(f:Bool->Bool):D->D->M D
 | .bl i,.bl j=>aC (.bl (f (i==j)))
 |d,.non=>match d with
  | .non=>aC (.bl (f b_))
  |_=>aC (.bl (f c_))
 |_,_=>M.fail
theorem Hz:j5 X (hh .Is) (λx y H Q=>∃i j,x= .bl i/\y= .bl j/\Q (.bl (i==j)) H):=by intro pins s σ H x y v u Q I Z Y h;obtain⟨i,j,rfl,rfl,q⟩:=h;cases Z;cases Y;exact is_bool ⟨.bl _,H,I,rfl,q⟩
theorem DD:j5 X (hh .IsNot) (λx y H Q=>∃i j,x= .bl i/\y= .bl j/\Q (.bl (!(i==j))) H):=by intro pins s σ H x y v u Q I Z Y h;obtain⟨i,j,rfl,rfl,q⟩:=h;cases Z;cases Y;exact isnot_bool ⟨.bl _,H,I,rfl,q⟩
theorem zo{f:Bool->Bool}:wX X.K E (zj f) (λx y H Q=>(∃i j,x= .bl i/\y= .bl j/\Q (.bl (f (i==j))) H)\/(y= .non/\Q (.bl (f (decide (x= .non)))) H)):=by
 intro U S H d1 W v1 v2 Q rep Z Y c;cases W with
 |non=>
  refine .inr ⟨Y.non_inv,?_⟩;cases d1 with
  |non=>rw[Z.non_inv];exact ao c .refl rep _ (.bl _)
  |bl i=>rw[Z.bl_inv];exact ao c .refl rep _ (.bl _)
  |int i=>rw[Z.int_inv];exact ao c .refl rep _ (.bl _)
  |str i=>rw[Z.str_inv];exact ao c .refl rep _ (.bl _)
  |tup ds=>obtain⟨p,vs,rfl,_,_⟩:=Z.tup_inv;exact ao c .refl rep _ (.bl _)
  |lst k=>obtain⟨p,rfl,_⟩:=Z.lst_inv;exact ao c .refl rep _ (.bl _)
  |ro ds=>obtain⟨p,vs,rfl,_,_⟩:=Z.ro_inv;exact ao c .refl rep _ (.bl _)
  |fz ds=>obtain⟨p,_,vs,rfl,_,_⟩:=Z.fz_inv;exact ao c .refl rep _ (.bl _)
  |emp=>cases Z;exact ao c .refl rep _ (.bl _)
  |fn a c q ds vs=>cases Z;exact ao c .refl rep _ (.bl _)
  |exc x ds=>cases Z<;>exact ao c .refl rep _ (.bl _)
 |bl j=>
  cases d1 with
  |bl i=>exact .inl ⟨i,j,Z.bl_inv,Y.bl_inv,ao c .refl rep _ (.bl _)⟩
  |_=>exact(au c).elim
 |_=>cases d1<;>exact(au c).elim
theorem K6(Y:SE X E a m)(Z:SE X E b n):SE X E (.Compare a [.Is] [b] pos) (λρ=>do let x<-m ρ;let y<-n ρ;zj id x y):=pM (Hz.or C5) (zo (f:=id)) Y Z
theorem HA(Y:SE X E a m)(Z:SE X E b n):SB X E (.Compare a [.Is] [b] pos) (λρ=>do let z<-(do let x<-m ρ;let y<-n ρ;zj id x y);n4 z):=kO (Hz.or C5) (zo (f:=id)) Y Z
theorem oF(Y:SE X E a m)(Z:SE X E b n):SB X E (.Compare a [.IsNot] [b] pos) (λρ=>do let z<-(do let x<-m ρ;let y<-n ρ;zj (!·) x y);n4 z):=kO (DD.or FW) (zo (f:=(!·))) Y Z
def Nh:D->M Int
 | .int i=>aC i
 |_=>M.fail
def NB(K:cC)(E:XD)(m:aE->M (Option Int)):TO:=λσ H Q=>∃ ι S ρ,Rep K ι H S/\RelE K ι H ρ σ/\cont K E (m ρ) ι S H (λo _ _ H'=>Q o H')
def SO(X:Cx)(E:XD)(o:Option Expr)(m:aE->M (Option Int)):Prop:=PO X o (NB X.K E m)
theorem PO.imp{X:Cx}{e:Option Expr}{t t':TO}(h:PO X e t)(k:∀ σ H Q,t' σ H Q->t σ H Q):PO X e t':=λpins s σ H Q I hw=>h pins s σ H Q I (k σ H Q hw)
theorem vA:SO X E none (λ_=>aC none):=by refine PO.imp F4 λσ H Q h=>?_;obtain⟨Z,S,ρ,rep,re,c⟩:=h;exact ao c .refl rep
theorem vB(h:SE X E e m):SO X E (ar e) (λρ=>do let x<-m ρ;let i<-Nh x;aC (ar i)):=by
 refine PO.imp (F5 h) λσ H Q h=>?_;obtain⟨Z,S,ρ,rep,re,c⟩:=h;refine⟨Z,S,ρ,rep,re,az (av c) λx Y S1 W e1 rep1 c1 v r=>?_⟩;cases x with
 |int i=>exact⟨i,r.int_inv,ao (ao (av c1) .refl rep1) .refl rep1⟩
 |_=>exact(au (av c1)).elim
def cutD(xs:List D)(lo hi:Option Int):List D:=(xs.drop (HT.sIx xs.length 0 lo)).take (HT.sIx xs.length xs.length hi - HT.sIx xs.length 0 lo)
theorem rp{K:cC}{U:List b'}{H:Hp}{ds:List D}{vs:List V}(Z Y:Option Int)(h:RelDs K U H ds vs):RelDs K U H (cutD ds Z Y) (tO vs Z Y):=by unfold cutD tO;rw[h.length];exact(h.drop _).take _
def vC:D->Option Int->Option Int->M D
 | .tup xs,lo,hi=>bw (cutD xs lo hi)
 | .lst k,lo,hi=>do let xs<-getL k;bQ (cutD xs lo hi)
 | .fz xs,lo,hi=>bQ (cutD xs lo hi)
 |_,_,_=>M.fail
theorem Gj:Hv X (λx lo T H Q=>∃a xs,x= .ref a/\mR X.K H a xs/\(HT.sIx xs.length 0 lo=0/\HT.sIx xs.length xs.length T=xs.length)/\Q (.ref a) H):=by
 intro pins s σ H x v J L lo T O Q I S hs N pu h;obtain⟨a,xs,rfl,P,hw,q⟩:=h;cases S;obtain⟨its,r,Z,G⟩:=I.tuple P;have hlen:its.toArray.size=xs.length:=by rw[N5];exact r.length.symm
 refine⟨"tuple",_,PyProof.Rows.slot_tuple_getitem.lookup,Z.typeIs,?_⟩;have fin:EP X pins σ Q (.ref a) s:=⟨.ref a,H,I,rfl,q⟩;obtain⟨os,Y,W,R⟩:=id hs;have U:s.TypeIs (.ref O) "slice":=⟨os,Y,W⟩;unfold RT
 try with_reducible refine O5 ?_
 first|refine NN (NT ?_)|skip
 refine NN (wpAny_sequenceKey Z.typeIs (by decide) ?_);refine NN (wpAny_callSpecial?_slot (name:=g_ "__getitem__") Z.typeIs Pa
  (O8 Pa Z.typeIs entry_tuple_getitem ?_ (args_tuple_getitem _ _)))
 show ed _ _ (Builtin.Tuple.tupleItemsOf (.ref a)>>=_) _ _ s;refine NN (tupleItemsOf_ Z (NN (Rx U ?_)));rw[if_pos (by decide)];refine NN (HT.sliceApplied_gen hs N pu ?_);rw[hlen,hw.1,hw.2];show ed _ _ (if ((((0:Nat):Int))==0 && (1:Int)==1 && (xs.length - 0)==xs.length)=b_ then _ else _) _ _ s;rw[if_pos (by simp)];unfold Builtin.Tuple.tupleIsExact;refine NN (NN (Rx Z.typeIs (NT ?_)));rw[if_pos (by decide)];first
  |exact NN (QB (NT ⟨_,rfl,NT fin⟩))
  |exact NN (QB (NN (NT (NT ⟨_,rfl,NT fin⟩))))
theorem zq{xs:List V}{Y Z:Option Int}(h:HT.sIx xs.length 0 Y=0/\HT.sIx xs.length xs.length Z=xs.length):tO xs Y Z=xs:=by unfold tO;rw[h.1,h.2,L',Nat.sub_zero,List.take_length]
theorem r0{L O:Option Expr}{ml P:aE->M (Option Int)}(F:SE X E e m)(B:SO X E L ml)(J:SO X E O P):
  SE X E (.Subscript e (.Slice L O none p2) pos) (λρ=>do let x<-m ρ;let i<-ml ρ;let j<-P ρ;vC x i j):=by
 refine PE.imp (Dd (IH.or (Gj.or F8)) F B J) λσ H Q h=>?_;obtain⟨I,S,ρ,rep,re,c⟩:=h;refine⟨I,S,ρ,rep,re,az (av c) λx T S1 w e1 rep1 c1 v r=>?_⟩;refine⟨T,S1,ρ,rep1,re.later rep e1,az (av c1) λi R S2 y e2 rep2 z=>?_⟩;refine⟨R,S2,ρ,rep2,(re.later rep e1).later rep1 e2,az (av z) λj K u t C rep3 Y=>?_⟩;have W:=(r.later rep1 e2).later rep2 C;cases x with
 | tup ds=>
  obtain⟨p,vs,rfl,Z,N⟩:=W.tup_inv;by_cases hw:HT.sIx vs.length 0 i=0/\HT.sIx vs.length vs.length j=vs.length
  ·refine .inr (.inl ⟨p,vs,rfl,.of Z,hw,kN Y rep3 Z ?_⟩);have:=rp i j N;rw[zq hw]at this;exact this
  ·exact .inl ⟨p,vs,rfl,.of Z,hw,(i5 Y rep3 (rp i j N)).2⟩
 |lst k=>
  obtain⟨p,rfl,Z⟩:=W.lst_inv;obtain⟨ds,vs,_,A,U,G⟩:=bI Y rep3 Z;exact .inr (.inr ⟨p,vs,rfl,.of A,(bK G rep3 (rp i j U)).2⟩)
 |fz ds=>
  obtain⟨p,o,vs,rfl,Z,U⟩:=W.fz_inv;exact .inr (.inr ⟨p,vs,rfl,.inl (.inr ⟨o,Z⟩),(bK Y rep3 (rp i j U)).2⟩)
 |_=>exact(au Y).elim
end
section
variable {X:Cx}{E:XD}{a b e c o:Expr}{m n l:TM}{pos p2:Pos}{es:List Expr}{ms:aE->M (List D)}
def dj:List D->M D
 |[.lst k]=>do let xs<-getL k;aC (.int xs.length)
 |[.tup ds]=>aC (.int ds.length)
 |[.ro ds]=>aC (.int ds.length)
 |[.fz ds]=>aC (.int ds.length)
 |_=>M.fail
theorem BY:lW X.K E dj (λxs H Q=>∃p ys,xs=[.ref p]/\(lQ X.K H p ys\/mR X.K H p ys)/\Q (.int ys.length) H):=by
 intro P S H ds vs Q rep r c
 match ds,r,c with
 |[.lst k],r,c=>
  obtain⟨v,ws,rfl,U,Y⟩:=r.cons_inv;cases Y.nil_inv;obtain⟨p,rfl,Z⟩:=U.lst_inv;obtain⟨es,us,_,R,W,T⟩:=bI c rep Z;refine⟨p,us,rfl,.inl (.of R),?_⟩;have:=ao T .refl rep _ (.int _);rw[W.length]at this;exact this
 |[.tup es],r,c=>
  obtain⟨v,ws,rfl,U,Y⟩:=r.cons_inv;cases Y.nil_inv;obtain⟨p,us,rfl,Z,W⟩:=U.tup_inv;refine⟨p,us,rfl,.inr (.of Z),?_⟩;have:=ao c .refl rep _ (.int _);rw[W.length]at this;exact this
 |[.ro es],r,c=>
  obtain⟨v,ws,rfl,U,Y⟩:=r.cons_inv;cases Y.nil_inv;obtain⟨p,us,rfl,Z,W⟩:=U.ro_inv;refine⟨p,us,rfl,.inl Z.sq,?_⟩;have:=ao c .refl rep _ (.int _);rw[W.length]at this;exact this
 |[.fz es],r,c=>
  obtain⟨v,ws,rfl,U,Y⟩:=r.cons_inv;cases Y.nil_inv;obtain⟨p,o,us,rfl,Z,W⟩:=U.fz_inv;refine⟨p,us,rfl,.inl (.inl (.inr ⟨o,Z⟩)),?_⟩;have:=ao c .refl rep _ (.int _);rw[W.length]at this;exact this
 |[],r,c=>exact(au c).elim
 |[.non],r,c=>exact(au c).elim
 |[.bl _],r,c=>exact(au c).elim
 |[.int _],r,c=>exact(au c).elim
 |[.str _],r,c=>exact(au c).elim
 |[.emp],r,c=>exact(au c).elim
 |d::d2::r',r,c=>cases d<;>exact(au c).elim
theorem dm(Z:X.mg "len"=none)(Y:SE X E e m)(W:Gl X "len":=by rfl)(hs:dt [e] X.env=[(c_,hD e X.env)]:=by rfl):SE X E (.Call (.Name "len" p) [e] [] pos) (λρ=>do let ds<-(do let x<-m ρ;let xs<-aC [];aC (x::xs));dj ds):=
 i7 vg BY W Z PySem.boot_len (af Y ah hs) (by decide) (by decide) hs rfl
def AK(f:Int->Int->Int):List D->M D
 |[.int i,.int j]=>aC (.int (f i j))
 |_=>M.fail
theorem sd{f:Int->Int->Int}:lW X.K E (AK f) (λxs H Q=>∃i j,xs=[.int i,.int j]/\Q (.int (f i j)) H):=by
 intro R S H ds vs Q rep r c;unfold AK at c;split at c
 ·next i j=>
  obtain⟨v,ws,rfl,T,U⟩:=r.cons_inv;obtain⟨P,W,rfl,Z,Y⟩:=U.cons_inv;cases Y.nil_inv;rw[T.int_inv,Z.int_inv];exact⟨i,j,rfl,ao c .refl rep _ (.int _)⟩
 ·exact(au c).elim
def maxD:List D->M D:=AK λi j=>if j>i then j else i
def minD:List D->M D:=AK λi j=>if j<i then j else i
theorem vD(W:X.calm=b_)(Y:X.mg "max"=none)(U:SA X E [a,b] ms)(T:Gl X "max":=by rfl)(hs:dt [a,b] X.env=[(c_,hD a X.env),(c_,hD b X.env)]:=by rfl)(Z:dt [b] X.env=[(c_,hD b X.env)]:=by rfl):
  SE X E (.Call (.Name "max" p) [a,b] [] pos) (λρ=>do let ds<-ms ρ;maxD ds):=
 i7 (BK W) sd T Y (by decide+kernel) U (by decide) (by decide) (by rw[hs,Z]) (by rw[Z];rfl)
theorem zv(W:X.calm=b_)(Y:X.mg "min"=none)(U:SA X E [a,b] ms)(T:Gl X "min":=by rfl)(hs:dt [a,b] X.env=[(c_,hD a X.env),(c_,hD b X.env)]:=by rfl)(Z:dt [b] X.env=[(c_,hD b X.env)]:=by rfl):
  SE X E (.Call (.Name "min" p) [a,b] [] pos) (λρ=>do let ds<-ms ρ;minD ds):=
 i7 (BN W) sd T Y (by decide+kernel) U (by decide) (by decide) (by rw[hs,Z]) (by rw[Z];rfl)
def uB:List D->M D
 |[.lst k]=>do let xs<-getL k;bQ xs
 |[.tup ds]=>bQ ds
 |[.ro ds]=>bQ ds
 |[.fz ds]=>bQ ds
 |_=>M.fail
def bY:List D->M D
 |[.lst k]=>do let xs<-getL k;bw xs
 |[.tup ds]=>bw ds
 |[.fz ds]=>bw ds
 |_=>M.fail
theorem zw:lW X.K E uB (λxs H Q=>∃p ys,xs=[.ref p]/\(lQ X.K H p ys\/mR X.K H p ys)/\∀l,H l=none->Q (.ref l) (upd H l (.lst ys))):=by
 intro P S H ds vs Q rep r c;unfold uB at c;split at c
 ·next k=>
  obtain⟨v,ws,rfl,U,Y⟩:=r.cons_inv;cases Y.nil_inv;obtain⟨p,rfl,Z⟩:=U.lst_inv;obtain⟨es,us,_,R,W,T⟩:=bI c rep Z;exact⟨p,us,rfl,.inl (.of R),(bK T rep W).2⟩
 ·next es=>
  obtain⟨v,ws,rfl,U,Y⟩:=r.cons_inv;cases Y.nil_inv;obtain⟨p,us,rfl,Z,W⟩:=U.tup_inv;exact⟨p,us,rfl,.inr (.of Z),(bK c rep W).2⟩
 ·next es=>
  obtain⟨v,ws,rfl,U,Y⟩:=r.cons_inv;cases Y.nil_inv;obtain⟨p,us,rfl,Z,W⟩:=U.ro_inv;exact⟨p,us,rfl,.inl Z.sq,(bK c rep W).2⟩
 ·next es=>
  obtain⟨v,ws,rfl,U,Y⟩:=r.cons_inv;cases Y.nil_inv;obtain⟨p,o,us,rfl,Z,W⟩:=U.fz_inv;exact⟨p,us,rfl,.inl (.inl (.inr ⟨o,Z⟩)),(bK c rep W).2⟩
 ·exact(au c).elim
theorem xt:lW X.K E bY (λxs H Q=>∃p ys,xs=[.ref p]/\((lQ X.K H p ys/\∀l,H l=none->Q (.ref l) (upd H l (.tup ys)))\/(mR X.K H p ys/\Q (.ref p) H))):=by
 intro P S H ds vs Q rep r c;unfold bY at c;split at c
 ·next k=>
  obtain⟨v,ws,rfl,U,Y⟩:=r.cons_inv;cases Y.nil_inv;obtain⟨p,rfl,Z⟩:=U.lst_inv;obtain⟨es,us,_,R,W,T⟩:=bI c rep Z;exact⟨p,us,rfl,.inl ⟨.of R,(i5 T rep W).2⟩⟩
 ·next es=>
  obtain⟨v,ws,rfl,U,Y⟩:=r.cons_inv;cases Y.nil_inv;obtain⟨p,us,rfl,Z,W⟩:=U.tup_inv;exact⟨p,us,rfl,.inr ⟨.of Z,kN c rep Z W⟩⟩
 ·next es=>
  obtain⟨v,ws,rfl,U,Y⟩:=r.cons_inv;cases Y.nil_inv;obtain⟨p,o,us,rfl,Z,W⟩:=U.fz_inv;exact⟨p,us,rfl,.inl ⟨.inl (.inr ⟨o,Z⟩),(i5 c rep W).2⟩⟩
 ·exact(au c).elim
theorem Gk(Z:X.mg "list"=none)(Y:SE X E e m)(W:Gl X "list":=by rfl)(hs:dt [e] X.env=[(c_,hD e X.env)]:=by rfl):SE X E (.Call (.Name "list" p) [e] [] pos) (λρ=>do let ds<-(do let x<-m ρ;let xs<-aC [];aC (x::xs));uB ds):=
 uy vh zw W Z (by decide+kernel) (af Y ah hs) (by decide) (by decide) hs rfl
theorem du(Z:X.mg "tuple"=none)(Y:SE X E e m)(W:Gl X "tuple":=by rfl)(hs:dt [e] X.env=[(c_,hD e X.env)]:=by rfl):SE X E (.Call (.Name "tuple" p) [e] [] pos) (λρ=>do let ds<-(do let x<-m ρ;let xs<-aC [];aC (x::xs));bY ds):=
 uy tQ xt W Z (by decide+kernel) (af Y ah hs) (by decide) (by decide) hs rfl
def HB(H:Hp):V->Option String
 | .non=>ar "NoneType"
 | .bl _=>ar "bool"
 | .int _=>ar "int"
 | .str _=>ar "str"
 | .ref a=>match H a with
  |some (.lst _)=>ar "list"
  |some (.frz _ (.lst _))=>ar "list"
  |some (.tup _)=>ar "tuple"
  |some (.dK _)=>ar "dict"
  |_=>none
 |_=>none
theorem IY{K:cC}{H:Hp}{v:V}{T:String}(h:HB H v=ar T):TyOf K H v (.type T):=by
 cases v with
 |non=>cases h;exact .non
 |bl b=>cases h;exact .bl b
 |int i=>cases h;exact .int i
 |str x=>cases h;exact .str x
 |ref a=>
  simp only[HB]at h;split at h
  ·next q=>cases h;exact .lst q
  ·next q=>cases h;exact .frz q
  ·next q=>cases h;exact .tup q
  ·next q=>cases h;exact .dK q
  ·cases h
 |_=>cases h
def FC:D->String
 | .non=>"NoneType"
 | .bl _=>"bool"
 | .int _=>"int"
 | .str _=>"str"
 | .tup _=>"tuple"
 | .lst _=>"list"
 | .ro _=>"list"
 | .fz _=>"list"
 | .emp=>"dict"
 | .fn _ _ _ _ _=>"NoneType"
 | .exc _ _=>"NoneType"
def Gm:D->Bool
 | .ro _=>c_
 | .fn _ _ _ _ _=>c_
 | .exc _ _=>c_
 |_=>b_
theorem IZ{K:cC}{U:List b'}{S:aK}{H:Hp}{d:D}{v:V}(Y:Rep K U H S)(r:RelD K U H d v)(Z:Gm d=b_):HB H v=ar (FC d):=by
 cases r with
 |non=>rfl
 |bl=>rfl
 |int=>rfl
 |str=>rfl
 |tup h _=>simp[HB,h,FC]
 |lst h=>
  obtain⟨vs,e⟩:=Y.isL (OC h);simp[HB,e,FC]
 |ro h _=>cases Z
 |fz h _=>simp[HB,h,FC]
 |emp h=>simp[HB,h,FC]
 |fn=>cases Z
 |exc=>cases Z
 |excF=>cases Z
def I0(f:String->Bool):D->M D
 | .ro _=>M.fail
 | .fn _ _ _ _ _=>M.fail
 | .exc _ _=>M.fail
 |d=>aC (.bl (f (FC d)))
theorem DE{K:cC}{E:XD}{Z:List b'}{S:aK}{H:Hp}{f:String->Bool}{d:D}{Q:D->List b'->aK->Hp->Prop}(c:cont K E (I0 f d) Z S H Q):Gm d=b_/\cont K E (aC (.bl (f (FC d)))) Z S H Q:=by
 cases d with
 |ro ds=>exact(au c).elim
 |fn a c' q ds vs=>exact(au c).elim
 |exc x ds=>exact(au c).elim
 |_=>exact⟨rfl,c⟩
def Gn(t T:String):Bool:=t==T||(t=="bool" && T=="int")
theorem Gp(K:cC)(t:String)(Y:t∈["NoneType","bool","int","str","tuple","list","dict"])(T:String)(Z:T∈["bool","int","str","tuple","list"]):xn K (.type t) (.type T)=ar (Gn t T):=by simp only[eu,ee,or_false]at Y Z;rcases Y with rfl|rfl|rfl|rfl|rfl|rfl|rfl<;>rcases Z with rfl|rfl|rfl|rfl|rfl<;>rfl
theorem Gq(d:D):FC d∈["NoneType","bool","int","str","tuple","list","dict"]:=by cases d<;>simp[FC]
theorem DF:d8 X (.builtin "isinstance") (λxs H Q=>∃x t T,xs=[x,.ty T]/\HB H x=ar t/\t∈["NoneType","bool","int","str","tuple","list","dict"]/\T∈["bool","int","str","tuple","list"]/\Q (.bl (Gn t T)) H):=by intro pins s σ H xs us Q I r h;obtain⟨x,t,T,rfl,Y,U,R,q⟩:=h;obtain⟨u,P,rfl,S,Z⟩:=vals2 r;cases (show P=H_ T from Z);exact BP I S (IY Y) (Gp X.K t U T R) λW=>⟨.bl _,H,I.tok W,rfl,q⟩
theorem nN{p q:Pos}{T:Str}{Ts:String}(L:X.mg "isinstance"=none)(Y:X.mg T=none)(I:SE X E e m)(N:k_ T=ar (.type Ts):=by decide+kernel)(R:Ts∈["bool","int","str","tuple","list"]:=by decide)(J:Gl X "isinstance":=by rfl)(W:Gl X T:=by rfl)
  (O:T≠"__name__":=by decide) (U:(T==("__debug__":Str))=false:=by decide)
  (hs:dt [e,.Name T q] X.env=[(c_,hD e X.env),(c_,hD (.Name T q) X.env)]:=by rfl) (Z:dt [.Name T q] X.env=[(c_,hD (.Name T q) X.env)]:=by rfl):
  SE X E (.Call (.Name "isinstance" p) [e,.Name T q] [] pos) (λρ=>do let x<-m ρ;I0 (λt=>Gn t Ts) x):=by
 refine PE.imp (rJ DF J L (by decide+kernel) (kI I (kI (FL W Y N (v:=.ty Ts) rfl O U) pF Z) (by rw[hs,Z])) (by decide) (by decide) (by rw[hs,Z]) (by rw[Z];rfl)) λσ H Q h=>?_;obtain⟨P,S,ρ,rep,re,c⟩:=h;refine⟨P,S,ρ,rep,re,az (av c) λx K S1 G e1 rep1 c1 v r=>?_⟩;obtain⟨U,c1⟩:=DE c1;exact⟨v,FC x,Ts,rfl,IZ rep1 r U,Gq x,R,ao c1 .refl rep1 _ (.bl _)⟩
end
section
variable {X:Cx}{E:XD}{a b e c o tg:Expr}{m n l:TM}{pos p2:Pos}{es:List Expr}{ms:aE->M (List D)}
theorem range_all{bs:List Bool}:(dq bs.length).all (λi=>bs.getD i c_)=bs.all id:=by
 induction bs with
 |nil=>rfl
 |cons b bs ih=>
  rw[Ou,Qx,QN,Q4];simp only[y3,RC,id];congr 1
theorem BZ(P:X.calm=b_):d8 X (.builtin "all") (λxs H Q=>∃(p:b') (bs:List Bool),xs=[.ref p]/\lQ X.K H p (bs.map V.bl)/\Q (.bl (bs.all id)) H):=by
 intro pins s σ H xs us Q I r h;obtain⟨p,bs,rfl,L,q⟩:=h;obtain⟨u,rfl,O⟩:=vals1 r;cases (show u=ey p from O);obtain⟨its,R,C,x⟩:=I.list L;have W:=C.isList;refine call_all_walk (QC W ?_);have U:p<s.heap.objs.size:=by obtain⟨o,F,_⟩:=W;exact NV F
 have hlen:=R.length;refine⟨s.heap.objs.size,_,_,_,_,_,λi=>bs.getD i c_,rfl,Sx (A:=X.A.in1) (by show X.A.handled=none;exact I.ok.hd P) s.heap.objs.size p (Ob U) its.toArray,⟨⟨_,N4 _ rfl,rfl,rfl⟩,W.push _⟩,?_,λh' B N=>?_⟩
 ·intro i v s' y E' G T;have Z:its[i]? =ar v:=by simpa using G
  have z:i<its.length:=(NX.mp Z).1;have Y:i<bs.length:=by rw[NM]at hlen;omega
  have:(bs.map V.bl)[i]? =ar (.bl bs[i]):=by rw[OR,NR Y];rfl
  obtain⟨u,S,J⟩:=R.get this;rw[Z]at S;cases S;cases (show v=u4 bs[i]from J);have:bs.getD i c_=bs[i]:=by simp[List.getD,Y]
  dsimp only at T;rw[this]at T;exact OP T
 ·have e1:its.toArray.size=bs.length:=by rw[N5, <-hlen,NM]
  rw[e1,range_all];refine⟨.bl _,H,I.kept (λb o e=>N b o ?_ (NO _ e)),rfl,q⟩;have:b≠s.heap.objs.size:=Ob (NV e);simpa using this
def boolsOf:List D->Option (List Bool)
 |[]=>ar []
 | .bl i::r=>(boolsOf r).map (i::·)
 |_=>none
theorem gY{K:cC}{Y:List b'}{H:Hp}:∀{ds:List D} {vs:List V} {ns:List Bool},RelDs K Y H ds vs->boolsOf ds=ar ns->vs=ns.map V.bl
 |[],vs,ns,h,e=>by cases e;rw[h.nil_inv];rfl
 | .bl i::ds,vs,ns,h,e=>by
  obtain⟨v,ws,rfl,U,Z⟩:=h.cons_inv;cases q:boolsOf ds with
  |none=>simp[boolsOf,q]at e
  |some ks=>
   simp[boolsOf,q]at e;subst e;rw[U.bl_inv,gY Z q];rfl
 | .non::_,_,_,_,e=>by cases e
 | .int _::_,_,_,_,e=>by cases e
 | .str _::_,_,_,_,e=>by cases e
 | .tup _::_,_,_,_,e=>by cases e
 | .lst _::_,_,_,_,e=>by cases e
 | .ro _::_,_,_,_,e=>by cases e
 | .fz _::_,_,_,_,e=>by cases e
 | .emp::_,_,_,_,e=>by cases e
def jI:List D->M D
 |[.lst k]=>do
  let xs<-getL k
  match boolsOf xs with
  |some bs=>aC (.bl (bs.all id))
  |none=>M.fail
 |[.fz xs]=>match boolsOf xs with
  |some bs=>aC (.bl (bs.all id))
  |none=>M.fail
 |_=>M.fail
theorem B0:lW X.K E jI (λxs H Q=>∃(p:b') (bs:List Bool),xs=[.ref p]/\lQ X.K H p (bs.map V.bl)/\Q (.bl (bs.all id)) H):=by
 intro P S H ds vs Q rep r c;unfold jI at c;split at c
 ·next k=>
  obtain⟨v,ws,rfl,T,W⟩:=r.cons_inv;cases W.nil_inv;obtain⟨p,rfl,Y⟩:=T.lst_inv;obtain⟨es,us,_,R,U,Z⟩:=bI c rep Y;cases q:boolsOf es with
  |none=>rw[q]at Z;exact(au Z).elim
  |some bs=>
   rw[q]at Z;refine⟨p,bs,rfl,.of ?_,ao Z .refl rep _ (.bl _)⟩;rw[<-gY U q];exact R
 ·next es=>
  obtain⟨v,ws,rfl,T,W⟩:=r.cons_inv;cases W.nil_inv;obtain⟨p,o,us,rfl,Y,U⟩:=T.fz_inv;cases q:boolsOf es with
  |none=>rw[q]at c;exact(au c).elim
  |some bs=>
   rw[q]at c;refine⟨p,bs,rfl,.inl (.inr ⟨o,?_⟩),ao c .refl rep _ (.bl _)⟩;rw[<-gY U q];exact Y
 ·exact(au c).elim
theorem gE(Y:X.calm=b_)(Z:X.mg "all"=none)(W:SE X E e m)(U:Gl X "all":=by rfl)(hs:dt [e] X.env=[(c_,hD e X.env)]:=by rfl):SE X E (.Call (.Name "all" p) [e] [] pos) (λρ=>do let ds<-(do let x<-m ρ;let xs<-aC [];aC (x::xs));jI ds):=
 i7 (BZ Y) B0 U Z (by decide+kernel) (af W ah hs) (by decide) (by decide) hs rfl
def gf:D->List D->M D
 | .lst k,[d]=>do let xs<-getL k;nL k (xs++[d])
 |_,_=>M.fail
def fK:D->List D->M D
 | .lst k,[.lst j]=>do let xs<-getL k;let ys<-getL j;nL k (xs++ys)
 | .lst k,[.fz ys]=>do let xs<-getL k;nL k (xs++ys)
 |_,_=>M.fail
def pN:D->List D->M D
 | .lst k,[.int i]=>do
  let xs<-getL k
  if 0<=i/\i<xs.length then
   match xs[i.toNat]? with
   |some y=>do let _<-nL k (xs.eraseIdx i.toNat);aC y
   |none=>M.fail
  else M.fail
 |_,_=>M.fail
theorem DG{K:cC}{H:Hp}{p:b'}{xs:List V}(h:H p=ar (.lst xs)):MG K "list" (.ref p) H:=.inl ⟨rfl,xs,.of h⟩
def Ja:D->M Unit
 | .lst _=>aC ()
 |_=>M.fail
theorem vE{name:Str}{O:String}{f:D->List D->M D}{r:V->List V->Hp->VK->Prop}{Y:Pos}(R:Slot "list" name O)(P:typeOf (.builtin O)=aC (.type "method_descriptor"))(u:LQ X O r)
  (s:K1 X.K E f r) (z:SE X E o m) (C:SA X E (e::es) ms)
  (U:u0 o name X.env (hD o X.env)=hD o X.env:=by rfl)
  (T:((oo pos (dt (e::es) X.env)).all (λx=> !x.1) && (backToKw pos (keywordEach [] X.env)).all (λx=>x.1.isSome)
   && decide ((e::es).length+([]:List Sn).length+(if ([]:List Sn).isEmpty then 0 else 1)<30))=true:=by rfl)
  (W:(Y.endLine==pos.line)=true:=by rfl) (hs:dt (e::es) X.env=(c_,hD e X.env)::dt es X.env:=by rfl) (Z:(oo pos (dt es X.env)).any (·.1)=false:=by rfl):
  SE X E (.Call (.Attribute o name Y) (e::es) [] pos) (λρ=>do let x<-m ρ;Ja x;let ds<-ms ρ;f x ds):=by
 refine PE.imp (Hx PySem.F.plainAttrs_list R P u z C U T W hs Z) λσ H Q h=>?_;obtain⟨G,S,ρ,rep,re,c⟩:=h;refine⟨G,S,ρ,rep,re,az (av c) λx N S1 q e1 rep1 c1 v J=>?_⟩;cases x with
 |lst k=>
  obtain⟨p,rfl,B⟩:=J.lst_inv;obtain⟨vs,w⟩:=rep1.isL (OC B);have t:=ao (av c1) .refl rep1;exact⟨DG w,N,S1,ρ,rep1,re.later rep e1,az (av t) λds L S2 I e2 rep2 y vs A=>s L S2 I (.lst k) ds (.ref p) vs Q rep2 (J.later rep1 e2) A y⟩
 |_=>exact(au (av c1)).elim
theorem zx:K1 X.K E gf AC:=by
 intro N S H d ds v vs Q rep r rs c;unfold gf at c;split at c
 ·next k d=>
  obtain⟨p,rfl,Z⟩:=r.lst_inv;obtain⟨w,ws,rfl,O,W⟩:=rs.cons_inv;cases W.nil_inv;obtain⟨es,us,_,R,T,U⟩:=bI c rep Z;obtain⟨Y,P⟩:=kl U rep Z (T.append (.cons O .nil));rw[NP]at Y;exact⟨p,us,w,rfl,rfl,R,Oe (by simp at Y;omega) hZ,P _ .non⟩
 ·exact(au c).elim
def xu:V->List V->Hp->VK->Prop:=λx vs H Q=>∃l b xs zs,x= .ref l/\vs=[.ref b]/\H l=ar (.lst xs)/\Rd H b (.lst zs)/\xs.length+zs.length<=sizeLine/\Q .non (upd H l (.lst (xs++zs)))
theorem zy:LQ X "list.extend" xu:=by
 intro pins s σ H x vs v us Q I T R h;obtain⟨l,b,xs,zs,rfl,rfl,U,P,G,q⟩:=h;cases T;obtain⟨u,rfl,S⟩:=R.one;cases S;obtain⟨z,its,n,r,J,e⟩:=I.lstM U;obtain⟨K,Z,L,N,O,e2⟩:=Inv.lstR I P;have W:its.toArray.size+Z.toArray.size<=sizeLine:=by rw[N5,N5];omega
 have Y:¬ (!its.toArray.isEmpty && u2 (its.toArray.size+Z.toArray.size))=true:=by rw[De W,Bool.and_false];exact Pd
 refine RH F.slot_list_extend ⟨_,e,rfl⟩ F.entry_list_extend (F.args_list_extend_2 _ _)
  (AutoSeq1.list_extend_list_list_0 l its.toArray n b Z.toArray L Y (by rw[N5];omega) (by omega)) ⟨e,e2,?_⟩
 refine⟨.non,_,I.lset (its':=its++Z) U e (by simp) (r.append N) ?_,rfl,q⟩;rw[NP];omega
theorem zz:K1 X.K E fK xu:=by
 intro G S H d ds v vs Q rep r rs c;unfold fK at c;split at c
 ·next k j=>
  obtain⟨p,rfl,Z⟩:=r.lst_inv;obtain⟨w,ws,rfl,L,W⟩:=rs.cons_inv;cases W.nil_inv;obtain⟨q,rfl,U⟩:=L.lst_inv;obtain⟨es,us,_,P,R,T⟩:=bI c rep Z;obtain⟨fs,ys,_,I,N,J⟩:=bI T rep U;obtain⟨Y,O⟩:=kl J rep Z (R.append N);rw[NP]at Y;exact⟨p,q,us,ys,rfl,rfl,P,.inl I,NZ Y hZ,O _ .non⟩
 ·next k fs=>
  obtain⟨p,rfl,Z⟩:=r.lst_inv;obtain⟨w,ws,rfl,L,W⟩:=rs.cons_inv;cases W.nil_inv;obtain⟨q,o,ys,rfl,U,N⟩:=L.fz_inv;obtain⟨es,us,_,P,R,T⟩:=bI c rep Z;obtain⟨Y,O⟩:=kl T rep Z (R.append N);rw[NP]at Y;exact⟨p,q,us,ys,rfl,rfl,P,.inr ⟨o,U⟩,NZ Y hZ,O _ .non⟩
 ·exact(au c).elim
theorem B1:K1 X.K E pN Df:=by
 intro O S H d ds v vs Q rep r rs c;unfold pN at c;split at c
 ·next k i=>
  obtain⟨p,rfl,W⟩:=r.lst_inv;obtain⟨w,ws,rfl,C,J⟩:=rs.cons_inv;cases J.nil_inv;rw[C.int_inv];obtain⟨es,us,F,G,U,Z⟩:=bI c rep W;split at Z
  ·next hb=>
   cases q:es[i.toNat]? with
   |none=>rw[q]at Z;exact(au Z).elim
   | some y=>
    rw[q]at Z;obtain⟨I,R,T⟩:=U.get' q;have hlen:=U.length;have L:Ext O H O (upd H p (.lst (us.eraseIdx i.toNat))):=vp (OC W);have Y:=RelDs.eraseIdx i.toNat U;have N:=kl (av Z) rep W Y;have P:us.length<=lim+1:=by have:=N.1;rw[List.length_eraseIdx]at this;split at this<;>omega
    refine⟨p,us,i,i.toNat,I,rfl,rfl,G,by omega,by unfold lim at P;omega,?_,R,?_⟩
    ·unfold R9;simp only[show ¬ i<0 by omega,if_false];first|(rw[if_pos (by omega)])|(rw[if_pos (by simp;omega)])|(simp;omega)
    ·exact ao N.2 .refl (vt rep W Y) _ (T.later rep L)
  ·exact(au Z).elim
 ·exact(au c).elim
theorem pO{Z:Pos}(T:SE X E o m)(U:SE X E e n)
  (W:u0 o "append" X.env (hD o X.env)=hD o X.env:=by rfl)
  (Y:(Z.endLine==pos.line)=true:=by rfl) (hs:dt [e] X.env=[(c_,hD e X.env)]:=by rfl):
  SE X E (.Call (.Attribute o "append" Z) [e] [] pos) (λρ=>do let x<-m ρ;Ja x;let ds<-(do let y<-n ρ;let ys<-aC [];aC (y::ys));gf x ds):=
 vE PySem.F.slot_list_append PySem.F.type_list_append pH zx T (af U ah hs) W (by rw[hs];rfl) Y hs rfl
theorem mY{Z:Pos}(T:SE X E o m)(U:SE X E e n)
  (W:u0 o "extend" X.env (hD o X.env)=hD o X.env:=by rfl)
  (Y:(Z.endLine==pos.line)=true:=by rfl) (hs:dt [e] X.env=[(c_,hD e X.env)]:=by rfl):
  SE X E (.Call (.Attribute o "extend" Z) [e] [] pos) (λρ=>do let x<-m ρ;Ja x;let ds<-(do let y<-n ρ;let ys<-aC [];aC (y::ys));fK x ds):=
 vE PySem.F.slot_list_extend PySem.F.type_list_extend zy zz T (af U ah hs) W (by rw[hs];rfl) Y hs rfl
theorem DH{Z:Pos}(T:SE X E o m)(U:SE X E e n)
  (W:u0 o "pop" X.env (hD o X.env)=hD o X.env:=by rfl)
  (Y:(Z.endLine==pos.line)=true:=by rfl) (hs:dt [e] X.env=[(c_,hD e X.env)]:=by rfl):
  SE X E (.Call (.Attribute o "pop" Z) [e] [] pos) (λρ=>do let x<-m ρ;Ja x;let ds<-(do let y<-n ρ;let ys<-aC [];aC (y::ys));pN x ds):=
 vE PySem.F.slot_list_pop PySem.F.type_list_pop Dg B1 T (af U ah hs) W (by rw[hs];rfl) Y hs rfl
theorem B2:ML X.K E lX Hw:=by
 intro J S H d1 N L v1 v2 G Q rep O T U c;unfold lX at c;split at c
 ·next k j=>
  obtain⟨p,rfl,Y⟩:=O.lst_inv;obtain⟨es,us,_,R,W,Z⟩:=bI c rep Y;cases q:yM es.length j with
  |none=>rw[q]at Z;exact(au Z).elim
  |some at'=>
   rw[q]at Z;obtain⟨I,P⟩:=kl (av Z) rep Y (RelDs.set U at' W);refine⟨p,us,j,at',rfl,T.int_inv,R,by rw[<-W.length];exact q,?_⟩;exact ao P .refl (vt rep Y (RelDs.set U at' W))
 ·exact(au c).elim
theorem AL(K:SE X E o m)(P:SE X E i n)(O:∀v,Ic (.Subscript o i pos) X.env v=(do
   let ov<-wh [v] (hD o X.env);let iv<-wh [v,ov] (hD i X.env)
   xi pos
   wh [v,ov,iv] (S9 ov iv v)
   release [v,ov,iv] []):=by intro _;rfl):SG X E (.Subscript o i pos) (λd ρ=>do let x<-m ρ;let y<-n ρ;lX x y d;aC ρ):=by
 refine PG.imp (Ij K P set_list O) λv σ H Q h=>?_;obtain⟨R,S,ρ,d,rep,re,r,c⟩:=h;refine⟨R,S,ρ,rep,re,az (av c) λx Z S1 F e1 rep1 c1 v1 G=>?_⟩;refine⟨Z,S1,ρ,rep1,re.later rep e1,az (av c1) λy W S2 U e2 rep2 I v2 N=>?_⟩;have Y:=(re.later rep e1).later rep1 e2;refine B2 (E:=E) W S2 U x y d v1 v2 v _ rep2 (G.later rep1 e2) N ((r.later rep e1).later rep1 e2) (az (av I) λ_ T C B L rep3 J=>?_);exact ao J .refl rep3 σ (Y.later rep2 L)
def bR(lo:Int)(n:Nat):List D:=(dq n).map λi=>.int (lo+(i:Nat))
def pP:List D->M Iter
 |[.int j]=>if -(2 ^ 62)<=j/\j<2 ^ 62 then aC ⟨bR 0 j.toNat,.none⟩else M.fail
 |_=>M.fail
def mZ:List D->M Iter
 |[.int i,.int j]=>if -(2 ^ 62)<=i/\i<2 ^ 62/\ -(2 ^ 62)<=j/\j<2 ^ 62 then aC ⟨bR i (j - i).toNat,.none⟩else M.fail
 |_=>M.fail
theorem oG{K:cC}{Y:Int}{n:Nat}{T:List b'}{H:Hp}:j8 K ⟨bR Y n,.none⟩ (Kt Y n) T H:=by
 intro R Q S2 e rep ok i;refine⟨λd hd=>?_,λh=>?_⟩
 ·have Z:((dq n)[i]?).map (λi:Nat=>D.int (Y+(i:Nat)))=ar d:=by
   have:(bR Y n)[i]? =ar d:=hd;unfold bR at this;rw[OR]at this;exact this
  have U:i<n:=by
   by_cases h:i<n
   ·exact h
   ·rw[Px (by simp;omega)]at Z;cases Z
  rw[QT U]at Z;cases Z;exact⟨U,λx P S=>by obtain⟨rfl,rfl⟩:=S;exact⟨.refl,rep,.int _⟩⟩
 ·have h':(bR Y n).length<=i:=h;unfold bR at h';rw[NM,Oc]at h';exact h'
theorem de(U:X.mg "range"=none)(Z:SE X E a m)(Q:Gl X "range":=by rfl)(hs:dt [a] X.env=[(c_,hD a X.env)]:=by rfl):
  SI X E tg (.Call (.Name "range" p) [a] [] pos) (λρ=>do let ds<-(do let x<-m ρ;let xs<-aC [];aC (x::xs));pP ds):=by
 intro pins s σ H R I h;refine BG Q U (af Z ah hs) hs pins s σ H R I ?_;obtain⟨W,S,ρ,rep,re,c⟩:=h;refine⟨W,S,ρ,rep,re,az (av c) λds T S1 O e1 rep1 c1 vs r=>?_⟩;unfold pP at c1;split at c1
 ·next j=>
  obtain⟨w,ws,rfl,P,Y⟩:=r.cons_inv;cases Y.nil_inv;split at c1
  ·next hb=>rw[P.int_inv];exact⟨j,rfl,hb.1,hb.2,ao c1 .refl rep1 _ oG⟩
  ·exact(au c1).elim
 ·exact(au c1).elim
theorem kq(N:X.mg "range"=none)(W:SE X E a m)(Y:SE X E b n)(K:Gl X "range":=by rfl)(hs:dt [a,b] X.env=[(c_,hD a X.env),(c_,hD b X.env)]:=by rfl)(Z:dt [b] X.env=[(c_,hD b X.env)]:=by rfl):
  SI X E tg (.Call (.Name "range" p) [a,b] [] pos) (λρ=>do let ds<-(do let x<-m ρ;let xs<-(do let y<-n ρ;let ys<-aC [];aC (y::ys));aC (x::xs));mZ ds):=by
 intro pins s σ H R I h;refine BH K N (af W (af Y ah Z) (by rw[hs,Z])) hs Z pins s σ H R I ?_;obtain⟨O,S,ρ,rep,re,c⟩:=h;refine⟨O,S,ρ,rep,re,az (av c) λds L S1 G e1 rep1 c1 vs r=>?_⟩;unfold mZ at c1;split at c1
 ·next i j=>
  obtain⟨w,ws,rfl,J,Q⟩:=r.cons_inv;obtain⟨F,P,rfl,T,U⟩:=Q.cons_inv;cases U.nil_inv;split at c1
  ·next Y=>rw[J.int_inv,T.int_inv];exact⟨i,j,rfl,Y,ao c1 .refl rep1 _ oG⟩
  ·exact(au c1).elim
 ·exact(au c1).elim
def K7:D->M Iter
 | .lst k=>do let xs<-getL k;aC ⟨xs,.some k⟩
 | .tup ds=>aC ⟨ds,.none⟩
 | .ro ds=>aC ⟨ds,.none⟩
 | .fz ds=>aC ⟨ds,.none⟩
 |_=>M.fail
theorem xv{K:cC}{k:Nat}{a:b'}{xs:List D}{T:List b'}{H:Hp}(Q:T[k]? =ar a):j8 K ⟨xs,.some k⟩ (LO K a) T H:=by intro P O S2 e rep ok i;obtain⟨vs,Y,S⟩:=rep.get k a xs (e.at Q) ok;refine⟨λd hd=>?_,λh=>⟨vs,.of Y,by rw[<-S.length];exact h⟩⟩;obtain⟨v,U,R⟩:=S.get' hd;refine⟨⟨vs,v,.of Y,U⟩,λx N Z=>?_⟩;obtain⟨rfl,Z⟩:=Z;have:=Z vs (.of Y);rw[U]at this;cases this;exact⟨.refl,rep,R⟩
theorem zA{K:cC}{a:b'}{ds:List D}{vs:List V}{U:List b'}{S:aK}{H:Hp}(Y:Rep K U H S)(R:H a=ar (.tup vs))(r:RelDs K U H ds vs):j8 K ⟨ds,.none⟩ (Mu K a) U H:=by intro N L S2 e rep2 ok i;have Z:=(e.oth a _ R (Y.notIn R (by intro _ z;cases z)) (by intro _ z;cases z) (by intro _ z;cases z)).1;have P:=r.laterN Y e;refine⟨λd hd=>?_,λh=>⟨vs,.of Z,by rw[<-r.length];exact h⟩⟩;obtain⟨v,Q,O⟩:=P.get' hd;refine⟨⟨vs,v,.of Z,Q⟩,λx J T=>?_⟩;obtain⟨rfl,T⟩:=T;have:=T vs (.of Z);rw[Q]at this;cases this;exact⟨.refl,rep2,O⟩
theorem uC{K:cC}{a:b'}{ds:List D}{vs:List V}{Y:List b'}{S:aK}{H:Hp}(Z:Rep K Y H S)(P:FB K H a vs)(r:RelDs K Y H ds vs):j8 K ⟨ds,.none⟩ (LO K a) Y H:=by intro L R S2 e rep2 ok i;have U:FB K R a vs:=P.imp (λ⟨o,h⟩=>⟨o,(e.oth a _ h (Z.notIn h (by intro _ z;cases z)) (by intro _ z;cases z) (by intro _ z;cases z)).1⟩) λz=>z;have O:=r.laterN Z e;have sq:lQ K R a vs:=U.sq;refine⟨λd hd=>?_,λh=>⟨vs,sq,by rw[<-r.length];exact h⟩⟩;obtain⟨v,Q,N⟩:=O.get' hd;refine⟨⟨vs,v,sq,Q⟩,λx J T=>?_⟩;obtain⟨rfl,T⟩:=T;have:=T vs sq;rw[Q]at this;cases this;exact⟨.refl,rep2,N⟩
theorem cA(Q:SE X E e m):SI X E tg e (λρ=>do let x<-m ρ;K7 x):=by
 intro pins s σ H R I h;obtain⟨T,S,ρ,rep,re,c⟩:=h;obtain⟨r,O,P,k⟩:=id (av c);cases r with
 |ex x=>
  refine og Q pins s σ H R I ⟨T,S,ρ,rep,re,.ex x,O,P,k⟩
 | ok d=>
  cases d with
  |tup ds=>
   refine Iq Q pins s σ H R I ⟨T,S,ρ,rep,re,.ok (.tup ds),O,P,λZ W e1 rep1 v U=>?_⟩;obtain⟨p,vs,rfl,Y,N⟩:=U.tup_inv;exact⟨p,rfl,⟨vs,.of Y⟩,ao (k Z W e1 rep1) .refl rep1 _ (zA rep1 Y N)⟩
  |lst j=>
   refine og Q pins s σ H R I ⟨T,S,ρ,rep,re,.ok (.lst j),O,P,λZ W e1 rep1 v U=>?_⟩;obtain⟨p,rfl,Y⟩:=U.lst_inv;obtain⟨es,us,_,K,J,L⟩:=bI (k Z W e1 rep1) rep1 Y;exact⟨p,rfl,⟨us,.of K⟩,ao L .refl rep1 _ (xv Y)⟩
  |ro ds=>
   refine og Q pins s σ H R I ⟨T,S,ρ,rep,re,.ok (.ro ds),O,P,λZ W e1 rep1 v U=>?_⟩;obtain⟨p,vs,rfl,Y,N⟩:=U.ro_inv;exact⟨p,rfl,⟨vs,Y.sq⟩,ao (k Z W e1 rep1) .refl rep1 _ (uC rep1 Y N)⟩
  |fz ds=>
   refine og Q pins s σ H R I ⟨T,S,ρ,rep,re,.ok (.fz ds),O,P,λZ W e1 rep1 v U=>?_⟩;obtain⟨p,o,vs,rfl,Y,N⟩:=U.fz_inv;exact⟨p,rfl,⟨vs,.inl (.inr ⟨o,Y⟩)⟩,ao (k Z W e1 rep1) .refl rep1 _ (uC rep1 (.inl ⟨o,Y⟩) N)⟩
  |_=>exact og Q pins s σ H R I ⟨T,S,ρ,rep,re,.ok _,O,P,λZ W e1 rep1 v U=>(au (k Z W e1 rep1)).elim⟩
theorem xw:d8 X (.type "range") (λxs H Q=>∃j,xs=[.int j]/\∀p,H p=none->Q (.ref p) (upd H p (.rng 0 j))):=by intro pins s σ H xs us Q I r h;obtain⟨j,rfl,q⟩:=h;obtain⟨u,rfl,Z⟩:=vals1 r;obtain⟨t,rfl⟩:=(show ∃t,u=u_ j t from Z);refine call_range_1 ⟨.ref s.heap.objs.size,_,I.laid (o:=.rng 0 j) (λb o e=>NO _ e) (NQ _) ⟨_,_,_,N4 _ rfl⟩,rfl,q _ (I.hok.fresh (NQ _))⟩
theorem tS(T:X.calm=b_):d8 X (.type "list") (λxs H Q=>∃(p:b') (j:Int),xs=[.ref p]/\H p=ar (.rng 0 j)/\ -(2 ^ 62)<=j/\j<=lim/\∀l,H l=none->Q (.ref l) (upd H l (.lst ((dq j.toNat).map λi:Nat=>V.int (i:Nat))))):=by
 intro pins s σ H xs us Q I r h;obtain⟨p,j,rfl,O,K,J,q⟩:=h;obtain⟨u,rfl,S⟩:=vals1 r;cases (show u=ey p from S);obtain⟨t,u,v,N⟩:=(show cy X.prog X.w H s.heap p (.rng 0 j)from I.hok p _ O);have W:Builtin.Range.rangeSize 0 j 1=(j.toNat:Int):=by rw[rangeSize_one];split<;>omega
 have Z:j.toNat<=lim:=by omega
 refine call_list_range (I.ok.hd T) N (small_one (by omega) (by omega) K (by unfold lim at J;omega)) W (by unfold lim at Z;omega) λh' P acc F R G hit=>?_;refine⟨.ref s.heap.objs.size,_,I.laid (t':=P) R (NQ _) (o:=.lst ((dq j.toNat).map λi:Nat=>V.int (i:Nat))) ?_,rfl,q _ (I.hok.fresh (NQ _))⟩;refine⟨by rw[NM,Oc];exact NZ Z hZ,acc.toList,F,?_,by simpa using G⟩;obtain⟨hs,L⟩:=hit;have gen:∀(l:List a_) (f:Nat->Int),(∀i v,l[i]? =ar v->∃t,v=u_ (f i) t)->bJ ((dq l.length).map λi:Nat=>V.int (f i)) l:=by
  intro l
  induction l with
  |nil=>intro f _;exact .nil
  |cons x l ih=>
   intro f hf;rw[Ou,Qx,On,Od];obtain⟨t,Y⟩:=hf 0 x rfl;refine .cons ⟨t,Y⟩ ?_;exact ih (λi=>f (i+1)) λi v U=>hf (i+1) v (by simpa using U)
 have:=gen acc.toList (λi=>(i:Int)) λi v U=>by obtain⟨t,Y⟩:=L i v (by simpa using U);exact⟨t,by rw[Y];congr 1;omega⟩
 rw[QS,hs]at this;exact this
def cD:List D->M D
 |[.int j]=>if -(2 ^ 62)<=j/\j<=lim then bQ (bR 0 j.toNat)else M.fail
 |_=>M.fail
theorem se{K:cC}{Z:List b'}{H:Hp}:∀(l:List Nat),RelDs K Z H (l.map λi:Nat=>D.int (0+(i:Nat))) (l.map λi:Nat=>V.int (i:Nat))
 |[]=>.nil
 |x::l=>.cons (by show RelD K Z H (D.int (0+(x:Int))) (V.int (x:Int));rw[Q5];exact .int _) (se l)
theorem kU(T:X.calm=b_)(N:X.mg "list"=none)(W:X.mg "range"=none)(R:SE X E a m)(J:Gl X "list":=by rfl)(Y:Gl X "range":=by rfl)(hs:dt [a] X.env=[(c_,hD a X.env)]:=by rfl)
  (Z:dt [.Call (.Name "range" q) [a] [] pos2] X.env=[(c_,hD (.Call (.Name "range" q) [a] [] pos2) X.env)]:=by rfl):
  SE X E (.Call (.Name "list" p) [.Call (.Name "range" q) [a] [] pos2] [] pos) (λρ=>do let ds<-(do let x<-m ρ;let xs<-aC [];aC (x::xs));cD ds):=by
 refine PE.imp (mS (tS T) J N (by decide+kernel) (kI (mS xw Y W (by decide+kernel) (af R ah hs) (by decide) (by decide) hs rfl) pF Z) (by decide) (by decide) Z rfl) λσ H Q h=>?_;obtain⟨O,S,ρ,rep,re,c⟩:=h;refine⟨O,S,ρ,rep,re,az (av c) λds K S1 G e1 rep1 c1 vs r=>?_⟩;unfold cD at c1;split at c1
 ·next j=>
  obtain⟨w,ws,rfl,I,P⟩:=r.cons_inv;cases P.nil_inv;split at c1
  ·next hb=>
   rw[I.int_inv];refine⟨j,rfl,λp U=>?_⟩;have rep2:=kL (o:=.rng 0 j) rep1 U;refine⟨p,j,rfl,bf,hb.1,hb.2,?_⟩;have L:=kP c1 (iI (o:=.rng 0 j) U);exact(bK L rep2 (se (dq j.toNat))).2
  ·exact(au c1).elim
 ·exact(au c1).elim
end
section
variable {X:Cx}{E:XD}{a b c d e:Expr}{m n l k:TM}{pos p2:Pos}
end
section
variable {X:Cx}{E:XD}{e:Expr}{m:TM}{te:TE}{pos p1 p2 p3:Pos}{j:Nat}
end
def insI(x:Int):List Int->List Int
 |[]=>[x]
 |y::r=>if x<=y then x::y::r else y::insI x r
def sortI:List Int->List Int
 |[]=>[]
 |x::r=>insI x (sortI r)
theorem insI_perm(x:Int):∀l,(insI x l).Perm (x::l)
 |[]=>.refl _
 |y::r=>by
  unfold insI;split
  ·exact .refl _
  ·exact(List.Perm.cons y (insI_perm x r)).trans (List.Perm.swap x y r)
theorem sortI_perm:∀l,(sortI l).Perm l
 |[]=>.refl _
 |x::r=>(insI_perm x _).trans (List.Perm.cons x (sortI_perm r))
theorem qB(x:Int):∀{l:List Int},l.Pairwise (· <=·)->(insI x l).Pairwise (· <=·)
 |[],_=>by simp[insI]
 | y::r,h=>by
  obtain⟨Y,X⟩:=Oa.mp h;unfold insI;split
  ·next c=>
   refine Oa.mpr ⟨λz Z=>?_,h⟩;rcases N6.mp Z with rfl|Z
   ·exact c
   ·exact Int.le_trans c (Y z Z)
  ·next c=>
   refine Oa.mpr ⟨λz Z=>?_,qB x X⟩;rcases N6.mp ((insI_perm x r).mem_iff.mp Z)with rfl|Z
   ·omega
   ·exact Y z Z
theorem gg:∀l,(sortI l).Pairwise (· <=·)
 |[]=>.nil
 |x::r=>qB x (gg r)
section
variable {X:Cx}{E:XD}{e:Expr}{m:TM}{pos:Pos}
theorem vF:d8 X (.builtin "sorted") (λxs H Q=>∃(p:b') (ns:List Int),xs=[.ref p]/\lQ X.K H p (ns.map V.int)/\ns.length<64/\∀l,H l=none->Q (.ref l) (upd H l (.lst ((sortI ns).map V.int)))):=by intro pins s σ H xs us Q I r h;obtain⟨p,ns,rfl,P,O,q⟩:=h;obtain⟨u,rfl,S⟩:=vals1 r;cases (show u=ey p from S);obtain⟨its,Y,N,L⟩:=I.list P;have T:ma its ns:=QQ Y;have hlen:=Y.length;rw[NM]at hlen;refine sorted_ints N.isList T (by omega) λout Z a1 a2 R=>?_;have en:Z=sortI ns:=W.lks_uniq (a2.trans (sortI_perm ns).symm) R (gg ns);subst en;obtain⟨c,U⟩:=sortedAll_at s.heap its out;have hf:H (s.heap.objs.size+1)=none:=I.hok.fresh (P3 _);refine⟨.ref (s.heap.objs.size+1),_,I.laid (t':=s.toks) (o:=.lst ((sortI ns).map V.int)) (λb o e=>sortedAll_old e) (P3 _) ⟨?_,out.toList,c,ki a1,U⟩,rfl,q _ hf⟩;rw[NM,(sortI_perm ns).length_eq,OW];omega
theorem oH{K:cC}{Z:List b'}{H:Hp}:∀ns:List Int,RelDs K Z H (ns.map D.int) (ns.map V.int)
 |[]=>.nil
 |n::r=>.cons (.int n) (oH r)
end
end S3
namespace S3
open PySem PySem.Spec PySem.W PyProof.Rows L2
theorem sf{h:eg}:∀{vs:List a_},(∀v∈vs,∃a o us n i t,v= .ref a/\h.get? a=ar o/\o.cls= .type "tuple"/\o.data= .seq us n/\us[0]? =ar (u_ i t))->
  ∃fs,KatTups h vs fs/\fs.length=vs.length/\∀f∈fs,∃i t,f=u_ i t
 |[],_=>⟨[],.nil,rfl,λ_ z=>nomatch z⟩
 |v::vs,hv=>by
  obtain⟨a,o,us,n,i,t,rfl,e1,e2,Y,Z⟩:=hv v Ol;obtain⟨fs,k1,k2,k3⟩:=sf λX h'=>hv X (N7 _ h');refine⟨_::fs,.cons e1 e2 Y Z k1,by simp[k2],λf hf=>?_⟩;rcases N6.mp hf with rfl|hf
  ·exact⟨i,t,rfl⟩
  ·exact k3 f hf
theorem fL:∀ns:List Int,HT.lexLt ns ns=c_
 |[]=>rfl
 |n::r=>by rw[HT.lexLt_cons,if_pos rfl];exact fL r
theorem vG:∀{a b c:List Int},HT.lexLt a b=b_->HT.lexLt b c=b_->HT.lexLt a c=b_
 |[],[],c,h,_=>by cases h
 |[],_::_,[],_,h=>by cases h
 |[],_::_,_::_,_,_=>rfl
 |_::_,[],c,h,_=>by cases h
 |_::_,_::_,[],_,h=>by cases h
 | x::a,y::b,z::c,h1,h2=>by
  rw[HT.lexLt_cons]at h1 h2⊢;split at h1
  ·next e=>
   subst e;split at h2
   ·next e2=>subst e2;rw[if_pos rfl];exact vG h1 h2
   ·next e2=>rw[if_neg e2];exact h2
  ·next e=>
   have Y:x<y:=OE h1;split at h2
   ·next e2=>subst e2;rw[if_neg e];exact h1
   ·next e2=>
    have Z:y<z:=OE h2;rw[if_neg (by omega)];exact N1 (by omega)
theorem vH:∀{a b c:List Int},HT.lexLt a c=b_->HT.lexLt a b=b_\/HT.lexLt b c=b_
 |a,b,[],h=>by cases a<;>cases h
 |[],[],_::_,_=>.inr rfl
 |[],_::_,_::_,_=>.inl rfl
 |_::_,[],_::_,_=>.inr rfl
 | x ::a,y::b,z::c,h=>by
  rw[HT.lexLt_cons]at h;rw[HT.lexLt_cons,HT.lexLt_cons];split at h
  ·next e=>
   subst e;by_cases e2:x=y
   ·subst e2;rw[if_pos rfl,if_pos rfl];exact vH h
   ·rw[if_neg e2,if_neg (lx e2)];rcases P0 e2 with l|l
    ·exact .inl (N1 l)
    ·exact .inr (N1 l)
  ·next e=>
   have h':x<z:=OE h;by_cases e2:x=y
   ·subst e2;rw[if_neg e];exact .inr (N1 h')
   ·rw[if_neg e2];by_cases l:x<y
    ·exact .inl (N1 l)
    ·refine .inr ?_;rw[if_neg (by omega)];exact N1 (by omega)
theorem DI(x:cy P w H h a o):∃Z,h.get? a=ar Z:=by
 cases o with
 |lst xs=>obtain⟨_,_,_,_,e⟩:=x;exact⟨_,e⟩
 |tup xs=>obtain⟨_,_,_,Z,e,_⟩:=x;exact⟨_,e⟩
 |dK kvs=>obtain⟨_,_,_,_,o,_,_,e,_⟩:=x;exact⟨_,e⟩
 |dT kvs=>obtain⟨_,_,_,_,o,_,_,e,_⟩:=x;exact⟨_,e⟩
 |set S n=>obtain⟨o,_,_,_,e,_⟩:=x;exact⟨_,e⟩
 |ins C dx fs=>obtain⟨_,_,_,e,_⟩:=x;exact⟨_,e⟩
 |own y=>exact x
 |xd fs=>obtain⟨_,⟨_,_,_,e,_⟩,_⟩:=x;exact⟨_,e⟩
 |rng lo hi=>obtain⟨_,_,_,e⟩:=x;exact⟨_,e⟩
 |frz Z u=>exact⟨_,x.1⟩
 |tbl ps=>exact⟨_,show h.get? a=ar _ from x⟩
 |met f y=>exact⟨_,show h.get? a=ar _ from x⟩
 |ext φ=>exact x.2.1
section
variable {X:Cx}{pins:List (b'×Obj)}{σ:L2.St}{H:Hp}{s:cn}
theorem zB{us:List a_}(I:L2.Inv X pins σ H s)(L:Fr X.base X.env.locals s.heap m)(F:Fr X.base X.env.locals h2 m)
  (U:∀b o,b≠X.env.locals->s.heap.get? b=ar o->h2.get? b=ar o) (R:s.heap.get? d=none) (O:h2.get? d=ar {cls:=.type "list",data:=.seq us.toArray n}) (P:bJ ys us) (E:ys.length<=sizeLine):
  L2.Inv X pins σ (upd H d (.lst ys)) {s with heap:=h2}:=by
 have Y:H d=none:=by
  cases e:H d with
  |none=>rfl
  |some o=>obtain⟨K,q⟩:=DI (I.hok d o e);rw[R]at q;cases q
 have W:∀b o,H b=ar o->b≠X.env.locals:=λb o e z=>by rw[z,I.free]at e;cases e
 have old:∀b o,s.heap.get? b=ar o->b≠d:=λb o e z=>by rw[z,R]at e;cases e
 refine I.step (g':=s.gens) (d':=s.drawn) (t':=s.toks) (ch:=[]) (λ_ z=>nomatch z) (λb o Z _ _ e _=>U b o Z e) (λb o Z _ _ e _=>⟨o.slots,U b o Z e⟩)
  (λb o _ e n=>by rw[aO (old b o e)];exact n) (λb o _ e=>?_) (λb xs e=>by rw[aO (a8 e Y)];exact e) (λb K u e=>by rw[aO (a8 e Y)];exact e)
  (λb B e=>⟨#[],by rw[aO (a8 e Y),e];simp⟩) (λN hm=>?_) (λb u e=>?_) I.bare
 ·by_cases Z:b=X.env.locals
  ·obtain⟨G,_,_,J,_⟩:=F.ns;exact⟨G,by rw[Z];exact J⟩
  ·exact⟨o,U b o Z e⟩
 ·have:N=m:=by
   obtain⟨A,es,y,e1,d1,_,g1⟩:=hm;obtain⟨o2,Q,C,e2,S,_,g2⟩:=L.ns;rw[e1]at e2;cases e2;rw[d1]at S;cases S;funext x;rw[<-g1 x, <-g2 x]
  rw[this];exact F.ns
 ·by_cases Z:b=d
  ·subst Z;rw[bf]at e;cases e;exact⟨E,us,n,P,O⟩
  ·rw[aO Z]at e;refine(I.hok b u e).stay (λc v T z=>U c v ?_ z) (λc z=>by rw[aO (a8 z Y)];exact z) λc xs z=>by rw[aO (a8 z Y)];exact z
   rcases T with rfl|T
   ·exact W _ _ e
   ·exact W _ _ T
end
section
variable {X:Cx}
end
end S3
namespace S4
open PySem PySem.SetTable
def tb(m:Nat):SetTable:=⟨m, #[], #[],0,b_,0,b_⟩
def DJ(m:Nat)(h:Int):Nat->Probe
 |0=>(tb m).probeStart h
 |k+1=>(tb m).advance (DJ m h k)
def run(m i:Nat):Nat:=runEnd m i - i
def NC(m:Nat):Prop:=m=7\/m=31\/m=127
def ND(xs:Array Nat):Prop:=∀(i j a b:Nat),i<j->xs[i]? =ar a->xs[j]? =ar b->a<b
abbrev Ent:=Int×a_
def At(pl:Array Nat)(es:Array Ent)(j:Nat)(e:Ent):Prop:=∃i:Nat,pl[i]? =ar j/\es[i]? =ar e
structure TPre(t:RX)(es:Array Ent):Prop where
 msk:NC t.mask
 dum:t.dummies= #[]
 siz:t.place.size=es.size
 ris:ND t.place
 inb:∀(i a:Nat),t.place[i]? =ar a->a<=t.mask
 way:∀(j:Nat) (e:Ent),At t.place es j e->∃k,(DJ t.mask e.1 k).j=j/\∀m,m<k->∃e',At t.place es (DJ t.mask e.1 m).j e'
structure TOk(t:RX)(es:Array Ent):Prop extends TPre t es where
 few:es.size*5<t.mask*3
abbrev LU:=Array (Option Nat)
def MN(o:LU)(j:Nat):Prop:=∃k,o[j]? =ar (ar k)
structure Laid(m:Nat)(hs:List Int)(o:LU):Prop where
 siz:o.size=m+1
 way:∀(j k:Nat),o[j]? =ar (ar k)->∃x,hs[k]? =ar x/\∃n,(DJ m x n).j=j/\∀i,i<n->MN o (DJ m x i).j
def K8(m:Nat)(f:Nat->Option Nat):List (Nat×Nat):=(dq (m+1)).filterMap λj=>(f j).map λk=>(j,k)
def fo(o:LU)(j:Nat):Option Nat:=o.getD j none
structure LaidN(m:Nat)(hs:List Int)(o:LU):Prop extends Laid m hs o where
 all:((K8 m (fo o)).map (·.2)).Perm (dq hs.length)
end S4
namespace S4
open PySem PySem.Spec PyProof.Rows
section
variable {prog:dV}{w:d_}{A:f_}{E:a_->cn->Prop}{s:cn}
theorem items_int(h:ItemsAre (O' prog w) ks vs):∀v∈vs,∃n t,v=u_ n t:=by
 induction h with
 |nil=>intro v Z;cases Z
 | cons h1 _ ih=>
  intro v Z;rcases N6.mp Z with rfl|Z
  ·obtain⟨t,e⟩:=Value.isInt_shape h1;exact⟨_,t,e⟩
  ·exact ih v Z
abbrev KA:=List Int×b'
def AM(prog:dV)(w:d_)(k:List Int):Int:=tupleKeyHash (O' prog w) k
def ent(prog:dV)(w:d_)(p:KA):Ent:=(AM prog w p.1,.ref p.2)
structure SetAt(prog:dV)(w:d_)(h:eg)(a:b')(o:Obj)(es:Array Ent)(ep:Nat)(t:RX)(L:List KA):Prop where
 get:h.get? a=ar o
 ex:o.ExactSet
 dat:o.data= .set es ep t
 ok:TOk t es
 pln:t.plain=b_
 led:t.led= !(w.params.followText "set-order")
 ents:es.toList=L.map (ent prog w)
 nd:(L.map (·.1)).Nodup
end
structure Folded(kv L:List KA):Prop where
 nd:(L.map (·.1)).Nodup
 mem:∀k,k∈L.map (·.1)↔k∈kv.map (·.1)
 sub:∀p∈L,p∈kv
 len:L.length<=kv.length
section
variable {prog:dV}{w:d_}{A:f_}{R:SM->cn->Prop}{I:b'}{fp wr:List b'}{G:Array J'->Array J'->Prop}{n:Nat}{P:Nat->a_->Prop}{St:Nat->cn->Prop}
end
section
variable {prog:dV}{w:d_}{A:f_}{E:a_->cn->Prop}{s:cn}
theorem xx:Sd (.type "tuple") (.type "set")=aC false:=by rw[isSubtype_type];kernel_rfl
theorem vI:Sd (.type "tuple") (.type "frozenset")=aC false:=by rw[isSubtype_type];kernel_rfl
def eN(led:Bool):Obj:={cls:=.type "set",dict:=none,data:=.set #[] 0 (.fresh 0 0 led)}
def jL(w:d_):Bool:= !(w.params.followText "set-order")
def Src(h:eg)(x:b')(items:Array a_):Prop:=h.IsList x items\/h.IsTuple x items
theorem Src.at{h':eg}(r:Src h x items)(e:∀o,h.get? x=ar o->h'.get? x=ar o):Src h' x items:=by
 rcases r with⟨o,ho,r⟩|⟨o,ho,r⟩
 ·exact .inl ⟨o,e o ho,r⟩
 ·exact .inr ⟨o,e o ho,r⟩
theorem Src.lt(r:Src h x items):x<h.objs.size:=by rcases r with⟨o,ho,_⟩|⟨o,ho,_⟩<;>exact NV ho
theorem DK(r:Src s.heap x items)
  (h:∀(ob:Obj) (St:Nat->eg->Prop),(∀Y:f_,Y.handled=none->Walks prog w Y s.heap.objs.size [s.heap.objs.size,x] [s.heap.objs.size] items.size (λi v=>items[i]? =ar v) St)->St 0 (s.heap.push ob)->
   Q (.ref s.heap.objs.size) {s with heap:=s.heap.push ob}):ed (er prog w) A (RN (.ref x)) Q E s:=by
 have Z:x≠s.heap.objs.size:=Ob r.lt;rcases r with r|r
 ·refine QC r (h _ _ (λY X=>Sx X s.heap.objs.size x Z items) ⟨⟨_,N4 _ rfl,rfl,rfl⟩,r.push _⟩)
 ·refine Pe r (h _ _ (λY X=>Walks.tuple X s.heap.objs.size x Z items) ⟨⟨_,N4 _ rfl,rfl,rfl⟩,?_⟩);obtain⟨o,W,q⟩:=r;exact⟨o,NO _ W,q⟩
theorem MO(a:a_){Q1:a_->cn->Prop}(h:Q1 (.ref s.heap.objs.size) {s with heap:=s.heap.push (eN (jL w))}):
  sb (er prog w) A (.call (.builtin "set.__new__") ⟨[.type "set",a],[]⟩) (wants Q1 E) s:=by
 refine QU ?_;show ed _ A.in1 (do checkBuiltinCall "set.__new__" ⟨[.type "set",a],[]⟩;RI (.builtin "set.__new__" ⟨[.type "set",a],[]⟩)) _ _ s;refine NN (Si (F.newCall_set_1 a) (NT ⟨plainId_quiet F.plain_set_new _,codeAny_builtin F.entry_set_new ?_⟩));rw[Around.under_plainId F.plain_set_new _];unfold Builtin.«set.__new__» Builtin.Frozenset.newClass;have Z:=sub_set_self;obtain⟨X,g,d,Y,os⟩:=s;dsimp only
 wp_walk
 refine wpAny_askSetting (NT ?_);dsimp only;simp only[newObj];exact NN (wpAny_alloc (NT (NT h)))
theorem DL(r:Src s.heap x items):∃T,s.TypeIs (.ref x) T/\Sd (.type T) (.type "set")=aC c_/\Sd (.type T) (.type "frozenset")=aC c_/\(H_ T==H_ "dict")=false:=by
 rcases r with⟨o,ho,hc,_⟩|⟨o,ho,hc,_⟩
 ·exact⟨"list",⟨o,ho,hc⟩,F.sub_list_set,F.sub_list_frozenset,by decide⟩
 ·exact⟨"tuple",⟨o,ho,hc⟩,xx,vI,by decide⟩
def Jb(w:d_)(t:RX)(i:Nat):Nat:=if w.params.followText "set-order"=b_ then 0 else match i with
 |0=>0
 |i+1=>t.place.getD i 0+1
structure IterAt(w:d_)(h:eg)(I a:b')(t:RX)(sz ep i:Nat):Prop where
 ex:∃o,h.get? I=ar o/\o.cls= .type "set_iterator"/\o.data= .fields #[.int (Jb w t i) 0,.int i 0,.ref a,.int sz 0,.int ep 0]
end
end S4
namespace S4
open PySem PySem.Spec PySem.W PyProof.Rows L2 S3
section
variable {prog:dV}{w:d_}{A:f_}{E:a_->cn->Prop}{s:cn}
theorem zF{vs:List a_}{P:PySem.Fin->cn->Prop}(W:s.heap.get? a=ar (p_ "list" vs.toArray n))(O:vs.length<2)
  (h:∀h' c,h'.get? a=ar (p_ "list" vs.toArray c)->(∀b o,b≠a->s.heap.get? b=ar o->h'.get? b=ar o)->P (.done (.ret .none)) {s with heap:=h'}):
  ed (er prog w) A (Builtin.«list.sort» ⟨[.ref a],[]⟩) P E s:=by
 have Q:a<s.heap.objs.size:=NV W;obtain⟨e1,X⟩:∃e1,(s.heap.update a (pe λ_=>(#[]:Array a_))).get? a=ar (p_ "list" #[] e1):=⟨_,get?_update_seq W λ_=> #[]⟩;have Z:(((s.heap.update a (pe λ_=>(#[]:Array a_))).push (p_ "tuple" vs.toArray 0)).push (p_ "list" #[] 0)).get? a=ar (p_ "list" #[] e1):=NO _ (NO _ X);rw[list_sort_plain];refine NN (listItems_at W rfl ?_);refine NN (listUpdate_at W rfl ?_ (by rw[N5,OW];omega) (Og _));refine NN (seqEpoch_at X rfl ?_);refine NN (wpAny_newTuple ?_ (by show vs.length<=_;rw[OW];omega));refine NN (RK ?_ (Og _));refine O5 ?_;show ed (er prog w) A _ P E {s with heap:=((s.heap.update a (pe λ_=>(#[]:Array a_))).push (p_ "tuple" vs.toArray 0)).push (p_ "list" #[] 0)};dsimp only;have Y:vs.toArray.size<2:=by rw[N5];omega
 rw[if_pos Y,if_pos Y];refine NN (NT ?_);rw[StateT.run_pure];refine NN (NT ?_);dsimp only;refine NN (seqEpoch_at Z rfl ?_);have R:(arrOf (SortSt.mk' general' (vs.toArray.zip vs.toArray) #[] 7 none)).map (·.2)=vs.toArray:=by show(vs.toArray.zip vs.toArray).map (·.2)=vs.toArray;rw[Array.map_snd_zip (NQ _)]
 rw[R];refine NN (listUpdate_at Z rfl ?_ (Og _) (by rw[N5,OW];omega));obtain⟨U,T⟩:∃U,((((s.heap.update a (pe λ_=>(#[]:Array a_))).push (p_ "tuple" vs.toArray 0)).push (p_ "list" #[] 0)).update a (pe λ_=>vs.toArray)).get? a=ar (p_ "list" vs.toArray U):=⟨_,get?_update_seq Z λ_=>vs.toArray⟩;simp only[bne_self_eq_false,j_,if_false];refine NT (h _ U T λb o S e=>?_);rw[PQ _ _ _ _ S];refine NO _ (NO _ ?_);rw[PQ _ _ _ _ S];exact e
end
section
variable {X:Cx}
structure TRow(H:Hp)(vs:List V)(nss:List (List Int)):Prop where
 len:vs.length=nss.length
 at':∀i,i<vs.length->∃a,vs[i]? =ar (.ref a)/\H a=ar (.tup ((nss.getD i []).map V.int))
 ne:∀i,i<vs.length->0<(nss.getD i []).length
def ja(nss:List (List Int))(q:List Nat):Prop:=q.Perm (dq nss.length)/\∀i j,i<=j->j<nss.length->HT.lexLt (nss.getD (q.getD j 0) []) (nss.getD (q.getD i 0) [])=c_
theorem lI{H:Hp}{Q:VK}(I:L2.Inv X pins σ H s)(Pv:List a_->Prop)
  (hc:∀(R:List a_->cn->Prop) (E':a_->cn->Prop),(∀vs Y N,Pv vs->(∀b o,s.heap.get? b=ar o->Y.get? b=ar o)->R vs {s with heap:=Y,toks:=N})->ed (er X.prog X.w) X.A.in1 (collect arg) R E' s)
  (r:∀us,Pv us->∃(vs:List V) (Z:List (List Int)),bJ vs us/\TRow H vs Z/\vs.length<64/\∀q,ja Z q->∀l,H l=none->Q (.ref l) (upd H l (.lst (q.map λi=>vs.getD i .non)))):
  ed (er X.prog X.w) X.A (call (.builtin "sorted") [arg]) (EP X pins σ Q) X.xe s:=by
 refine Q8 kind_sorted plain_sorted entry_sorted (args_sorted1 _) ?_;unfold Builtin.«sorted»;refine NN (m:=checkCount "sorted" 1 1 _) (NT ?_);refine NN (hc _ _ λits Y N hP keep=>?_);obtain⟨vs,Z,rv,T0,e4,q⟩:=r its hP;have a9:=rv.length;have K:L2.Inv X pins σ H {s with heap:=Y,toks:=N}:=I.kept keep;obtain⟨m,F⟩:=K.fr;refine NN (RK ?_ (by rw[OW];omega));have O:(Y.push (p_ "list" its.toArray 0)).get? Y.objs.size=ar (p_ "list" its.toArray 0):=N4 _ rfl;have up:∀b o,Y.get? b=ar o->(Y.push (p_ "list" its.toArray 0)).get? b=ar o:=λb o e=>NO _ e;have nd:Y.get? Y.objs.size=none:=OU (NQ _);have hL:X.env.locals<Y.objs.size:=F.ns.lt;have hH:H Y.objs.size=none:=K.hok.fresh (NQ _);have at':∀i,i<its.length->∃a,its[i]? =ar (.ref a)/\its.getD i i_= .ref a/\H a=ar (.tup ((Z.getD i []).map V.int)):=λi U=>by obtain⟨a,e1,e2⟩:=T0.at' i (by omega);obtain⟨u,hu,ru⟩:=rv.get e1;cases (show u=ey a from ru);exact⟨a,hu,by rw[NS,hu];rfl,e2⟩
 have b4:∀l:List Nat,(∀x∈l,x<its.length)->bJ (l.map λi=>vs.getD i .non) (l.map λi=>its.getD i i_):=by
  intro l
  induction l with
  |nil=>intro _;exact .nil
  |cons x l ih=>
   intro hx;refine .cons ?_ (ih λy hy=>hx y (N7 _ hy));have f:x<vs.length:=by have:=hx x Ol;omega
   obtain⟨u,hu,ru⟩:=rv.get (NR f);show L2.RelV (vs.getD x .non) (its.getD x i_);rw[NS,NS,hu,NR f];exact ru
 show ed _ _ _ _ _ {s with heap:=Y.push (p_ "list" its.toArray 0),toks:=N};refine NN (O5 (O8 slot_list_sort ⟨_,O,rfl⟩ entry_list_sort ?body (args_list_sort _)))
 case body=>
  by_cases J:its.length<2
  ·refine zF (s:={s with heap:=Y.push (p_ "list" its.toArray 0),toks:=N}) O J λh' c g1 g2=>?_;refine⟨_,rfl,NT ⟨_,rfl,?_⟩⟩;have I2:L2.Inv X pins σ (upd H Y.objs.size (.lst vs)) {s with heap:=h',toks:=N}:=K.laid (λb o e=>g2 b o (Ob (NV e)) (up b o e)) (NQ _) ⟨by rw[OW];omega,its,c,rv,g1⟩;refine⟨.ref Y.objs.size,_,I2,rfl,?_⟩;have:=q (dq Z.length) ⟨.refl _,λi j B hj=>?_⟩ _ hH
   ·have e:(dq Z.length).map (λi=>vs.getD i .non)=vs:=by
     refine List.ext_getElem? λi=>?_;rw[OR, <-T0.len];by_cases U:i<vs.length
     ·rw[QT U,NR U];simp[hY,U]
     ·rw[Px (by simpa using U),Px (by omega)];rfl
    rw[e]at this;exact this
   ·have:i=j:=by have:=T0.len;omega
    subst this;exact fL _
  ·have a6:=T0.ne;refine kat_list_sort (s:={s with heap:=Y.push (p_ "list" its.toArray 0),toks:=N}) (F.kept up) (News.grown (rF (g:=X.base) (h:=Y) (L:=X.env.locals)) up) O (PL hL) (OU (NZ F.above (Qi hL)))
    (λp hp=>Ob (NV (rF p hp).1)) (by omega) (by omega) λe1 h' F' N'=>?_
   have S:∀J:eg,Fr X.base X.env.locals J m->News X.base X.env.locals J (n8 X.base Y X.env.locals)->∀b o,b≠X.env.locals->Y.get? b=ar o->J.get? b=ar o:=λJ F2 N2 b o hb e=>by
    cases z:X.base.get? b with
    |some o'=>
     have:=K.bk b o' z;rw[show Y.get? b=ar o' from this]at e;cases e;exact F2.keep b _ z
    |none=>exact(N2 (b,o) (wY hb z e)).1
   have kp:=S h' F' λz P=>N' z (N7 _ P);have T:Tups Y its Z:=⟨by have:=T0.len;omega,λi U=>by obtain⟨a,_,e1,e2⟩:=at' i U;obtain⟨_,ws,E,o,ho,a5,n,hd⟩:=(show cy X.prog X.w H Y a (.tup ((Z.getD i []).map V.int))from K.hok a _ e2);refine⟨a,o,ws.toArray,n,e1,ho,a5,hd,by simpa using QQ E,?_⟩;rw[N5, <-E.length,NM];exact a6 i (by omega)⟩
   have T':Tups h' its Z:=T.keep λi a o U ea ho=>by obtain⟨a',_,e1,e2⟩:=at' i U;rw[ea]at e1;cases e1;refine kp a o (λz=>?_) ho;rw[z,K.free]at e2;cases e2
   obtain⟨fs,k1,k2,k3⟩:=sf (h:=h') (vs:=its) λv r=>by
    obtain⟨i,U,ei⟩:=Ph.mp r;obtain⟨a,o,us,n,f1,f2,f3,f4,f5,f6⟩:=T'.get i U;have ev:v= .ref a:=by rw[NS,NR U,ei]at f1;exact f1
    generalize Z.getD i []=ns at f5;cases hus:us.toList with
    |nil=>
     have:us.size=0:=by rw[<-QS,hus];rfl
     omega
    |cons x r'=>
     rw[hus]at f5;cases f5 with
     |cons n' t' _=>exact⟨a,o,us,n,n',t',ev,f2,f3,f4,by rw[<-Pw,hus];rfl⟩
   refine kat_kind k1 (by omega) (T:=.type "int") (λv r=>by obtain⟨i,t,rfl⟩:=k3 v r;exact Looks.of_pure rfl) rfl ?_;refine Dk (n:=its.length) (R:=In its.length) (b:=λi j=>HT.lexLt (Z.getD i []) (Z.getD j [])) (λi j C U hj hC=>T'.ask U hj hC) (xb (by omega)) ?_;obtain⟨s1,s2⟩:=Ga (n:=its.length) (b:=λi j=>HT.lexLt (Z.getD i []) (Z.getD j [])) (by omega) (λi _=>fL _) (λi j k _ _ _=>vG) (λi j k _ _ _=>vH);generalize bL (λi j=>HT.lexLt (Z.getD i []) (Z.getD j [])) (u3 its.length)=pp at s1 s2;have W:pp.toList.Perm (dq its.length):=by simpa using Array.Perm.toList s1
   refine KasFin.intro F' N' (.head λz P=>Ob (NV (rF z P).1)) λb6 c' d G=>?_;have c2:=S b6 d λz P=>G z (N7 _ P);obtain⟨g1,g2,g3⟩:=G _ Ol;have c1:∀x∈pp.toList,x<its.length:=λx hx=>N0.mp (W.mem_iff.mp hx);have b1:(pp.toList.map λi=>vs.getD i .non).length<=sizeLine:=by rw[NM,W.length_eq,Oc,OW];omega
   have I2:=zB K F d c2 nd g1 (b4 pp.toList c1) b1;refine⟨_,rfl,NT ⟨_,rfl,.ref Y.objs.size,_,I2,rfl,q pp.toList ⟨by rw[<-T0.len,a9];exact W,λi j B hj=>?_⟩ _ hH⟩⟩;have:=s2 i j B (by have:=T0.len;omega);rw[O7,O7]at this;rw[NS (l:=pp.toList),NS (l:=pp.toList),Pw,Pw];exact this
end
end S4
namespace S3
open PySem PySem.Spec PySem.W PyProof.Rows L2 S4
def tupI(ns:List Int):D:=.tup (ns.map D.int)
def rowsOf:List D->Option (List (List Int))
 |[]=>ar []
 | .tup ds::r=>match intsOf ds,rowsOf r with
  |some ns,ar nss=>ar (ns::nss)
  |_,_=>none
 |_=>none
theorem vJ:∀{a b:List Int},HT.lexLt a b=c_->HT.lexLt b a=c_->a=b
 |[],[],_,_=>rfl
 |[],_::_,h,_=>by cases h
 |_::_,[],_,h=>by cases h
 | x::a,y::b,h1,h2=>by
  rw[HT.lexLt_cons]at h1 h2;by_cases e:x=y
  ·subst e;rw[if_pos rfl]at h1 h2;rw[vJ h1 h2]
  ·rw[if_neg e]at h1;rw[if_neg (lx e)]at h2;have:=of_decide_eq_false h1;have:=of_decide_eq_false h2;omega
abbrev FD(a b:List Int):Prop:=HT.lexLt b a=c_
def zG(x:List Int):List (List Int)->List (List Int)
 |[]=>[x]
 |y::r=>if HT.lexLt y x=b_ then y::zG x r else x::y::r
def bc:List (List Int)->List (List Int)
 |[]=>[]
 |x::r=>zG x (bc r)
theorem pQ(x:List Int):∀l,(zG x l).Perm (x::l)
 |[]=>.refl _
 |y::r=>by
  unfold zG;split
  ·exact((pQ x r).cons y).trans (.swap _ _ _)
  ·exact .refl _
theorem bx:∀l,(bc l).Perm l
 |[]=>.refl _
 |x::r=>(pQ x _).trans ((bx r).cons x)
theorem B3(Y:FD a b)(Z:FD b c):FD a c:=by
 cases q:HT.lexLt c a with
 |false=>exact q
 |true=>
  rcases vH (b:=b) q with z|z
  ·rw[show HT.lexLt c b=c_ from Z]at z;cases z
  ·rw[show HT.lexLt b a=c_ from Y]at z;cases z
theorem ku(h:HT.lexLt a b=b_):HT.lexLt b a=false:=by
 cases q:HT.lexLt b a with
 |false=>rfl
 |true=>
  have:=vG h q;rw[fL]at this;cases this
theorem qC(x:List Int):∀{l:List (List Int)},l.Pairwise FD->(zG x l).Pairwise FD
 |[],_=>by simp[zG]
 | y::r,h=>by
  obtain⟨Y,W⟩:=Oa.mp h;unfold zG;split
  ·next c=>
   refine Oa.mpr ⟨λz Z=>?_,qC x W⟩;rcases N6.mp ((pQ x r).mem_iff.mp Z)with rfl|Z
   ·exact ku c
   ·exact Y z Z
  ·next c=>
   have X:FD x y:=Bool.eq_false_iff.mpr c;refine Oa.mpr ⟨λz Z=>?_,h⟩;rcases N6.mp Z with rfl|Z
   ·exact X
   ·exact B3 X (Y z Z)
theorem gh:∀l,(bc l).Pairwise FD
 |[]=>.nil
 |x::r=>qC x (gh r)
theorem m3{l:List (List Int)}(h:l.Perm l')(Z:l.Pairwise FD)(Y:l'.Pairwise FD):l=l':=
 Rf (le:=FD) (λa b _ _ x y=>vJ y x) Z Y h
theorem sg(h:ja nss q):q.map (λi=>nss.getD i [])=bc nss:=by
 have hlen:q.length=nss.length:=by simpa using h.1.length_eq
 have e:(dq nss.length).map (λi=>nss.getD i [])=nss:=by
  refine List.ext_getElem? λi=>?_;rw[OR];by_cases Z:i<nss.length
  ·rw[QT Z,NR Z];simp[hY,Z]
  ·rw[Px (by simpa using Z),Px (by omega)];rfl
 have W:(q.map (λi=>nss.getD i [])).Perm nss:=by have:=h.1.map (λi=>nss.getD i []);rw[e]at this;exact this
 refine m3 (W.trans (bx nss).symm) ?_ (gh _);rw[PB];intro i j Z X Y;rw[NM]at Z X;rw[Qb,Qb];have:=h.2 i j (Qi Y) (by omega);rw[NS (l:=q),NS (l:=q),NR Z,NR X]at this;exact this
theorem _root_.S4.Folded.perm{Z:List KA}(f:Folded kv L)(h:Z.Perm L):Folded kv Z:=
 ⟨(List.Perm.nodup_iff (h.map (λp:KA=>p.1))).mpr f.nd,λk=>by rw[(h.map (λp:KA=>p.1)).mem_iff];exact f.mem k,λp Y=>f.sub p (h.mem_iff.mp Y),by rw[h.length_eq];exact f.len⟩
section
variable {K:cC}{ι:List b'}{H:Hp}
theorem sh:∀{ds:List D} {vs:List V} {nss:List (List Int)},RelDs K ι H ds vs->rowsOf ds=ar nss->vs.length=nss.length/\∀i,i<vs.length->∃a,vs[i]? =ar (.ref a)/\H a=ar (.tup ((nss.getD i []).map V.int))
 |[],vs,nss,h,e=>by
  cases e;rw[h.nil_inv];exact⟨rfl,λi Z=>absurd Z (Nat.not_lt_zero _)⟩
 | .tup ds::r,vs,nss,h,e=>by
  obtain⟨v,ws,rfl,S,U⟩:=h.cons_inv;unfold rowsOf at e;cases q:intsOf ds with
  |none=>rw[q]at e;cases e
  | some ns=>
   rw[q]at e;cases q2:rowsOf r with
   |none=>rw[q2]at e;cases e
   | some nss'=>
    rw[q2]at e;cases e;obtain⟨Y,T⟩:=sh U q2;obtain⟨a,us,rfl,g1,g2⟩:=S.tup_inv;refine⟨by simp[Y],λi Z=>?_⟩;cases i with
    |zero=>
     refine⟨a,rfl,?_⟩;rw[fT g2 q]at g1;simpa using g1
    |succ i=>
     obtain⟨X,e1,e2⟩:=T i (by simpa using Z);exact⟨X,by simpa using e1,by simpa using e2⟩
 | .non::_,_,_,_,e=>by cases e
 | .bl _::_,_,_,_,e=>by cases e
 | .int _::_,_,_,_,e=>by cases e
 | .str _::_,_,_,_,e=>by cases e
 | .lst _::_,_,_,_,e=>by cases e
 | .ro _::_,_,_,_,e=>by cases e
 | .fz _::_,_,_,_,e=>by cases e
 | .emp::_,_,_,_,e=>by cases e
theorem uD:∀ns:List Int,RelDs K ι H (ns.map D.int) (ns.map V.int)
 |[]=>.nil
 |n::r=>.cons (.int n) (uD r)
theorem si{vs:List V}{Z:List (List Int)}(h:∀i,i<vs.length->∃a,vs[i]? =ar (.ref a)/\H a=ar (.tup ((Z.getD i []).map V.int))):
  ∀q:List Nat,(∀i∈q,i<vs.length)->RelDs K ι H ((q.map λi=>Z.getD i []).map tupI) (q.map λi=>vs.getD i .non)
 |[],_=>.nil
 |i::q,hq=>by
  obtain⟨a,e1,e2⟩:=h i (hq i Ol);refine .cons ?_ (si h q λj Y=>hq j (N7 _ Y));show RelD K ι H (tupI (Z.getD i [])) (vs.getD i .non);have X:vs.getD i .non= .ref a:=by rw[NS,e1];rfl
  rw[X];exact .tup e2 (uD _)
end
section
variable {X:Cx}{E:XD}{e:Expr}{m:TM}{pos:Pos}
theorem tT:d8 X (.builtin "sorted") (λxs H Q=>∃(p:b') (vs:List V) (Z:List (List Int)),xs=[.ref p]/\lQ X.K H p vs/\TRow H vs Z/\vs.length<64/\
  ∀q,ja Z q->∀l,H l=none->Q (.ref l) (upd H l (.lst (q.map λi=>vs.getD i .non)))):=by
 intro pins s σ H xs us Q I r h;obtain⟨p,vs,Z,rfl,O,T,W,q⟩:=h;obtain⟨u,rfl,S⟩:=vals1 r;cases (show u=ey p from S);obtain⟨its,U,J,G⟩:=I.list O;have N:=U.length;refine lI I (λus=>us=its) (λR E' L=>?_) λus P=>⟨vs,Z,by rw[P];exact U,T,W,q⟩;refine collect_list J.isList (L its _ _ rfl λb o e=>?_) (by rw[OW];omega);have Y:b<s.heap.objs.size:=NV e;rw[PQ _ _ _ _ (Ob Y)];exact NO _ e
def two(nss:List (List Int)):Bool:=nss.all λns=>ns.length !=0
def sj(nss:List (List Int)):M D:=if nss.length<64/\two nss=b_ then bQ ((bc nss).map tupI)else M.fail
def kx(xs:List D):M D:=match intsOf xs with
 |some ns=>if ns.length<64 then bQ ((sortI ns).map D.int)else M.fail
 |none=>match rowsOf xs with
  |some nss=>sj nss
  |none=>M.fail
def bG:List D->M D
 |[.lst k]=>do
  let xs<-getL k
  kx xs
 |[.fz xs]=>kx xs
 |_=>M.fail
theorem AN{H:Hp}{vs:List V}{Z:List (List Int)}(h:vs.length=Z.length/\∀i,i<vs.length->∃a,vs[i]? =ar (.ref a)/\H a=ar (.tup ((Z.getD i []).map V.int)))(U:two Z=b_):TRow H vs Z:=
 ⟨h.1,h.2,λi W=>by
  have Y:i<Z.length:=by rw[<-h.1];exact W
  have:=Of.mp U Z[i] (Pf Y);rw[NS,NR Y];exact Nat.pos_of_ne_zero λz=>by rw[show(ar Z[i]).getD []=Z[i]from rfl]at z;rw[z]at this;cases this⟩
theorem vK:lW X.K E bG (λxs H Q=>(∃(p:b') (ns:List Int),xs=[.ref p]/\lQ X.K H p (ns.map V.int)/\ns.length<64/\∀l,H l=none->Q (.ref l) (upd H l (.lst ((sortI ns).map V.int))))\/
  ∃(p:b') (vs:List V) (nss:List (List Int)),xs=[.ref p]/\lQ X.K H p vs/\TRow H vs nss/\vs.length<64/\∀q,ja nss q->∀l,H l=none->Q (.ref l) (upd H l (.lst (q.map λi=>vs.getD i .non)))):=by
 intro U S H ds vs Q rep r c;have fin:∀{es:List D} {us:List V} {p:b'},RelDs X.K U H es us->Rd H p (.lst us)->cont X.K E (kx es) U S H (nB X.K Q)->vs=[.ref p]->
   (∃(p:b') (ns:List Int),vs=[.ref p]/\lQ X.K H p (ns.map V.int)/\ns.length<64/\∀l,H l=none->Q (.ref l) (upd H l (.lst ((sortI ns).map V.int))))\/
  ∃(p:b') (ws:List V) (nss:List (List Int)),vs=[.ref p]/\lQ X.K H p ws/\TRow H ws nss/\ws.length<64/\∀q,ja nss q->∀l,H l=none->Q (.ref l) (upd H l (.lst (q.map λi=>ws.getD i .non))):=by
  intro es us p W R Z T;unfold kx at Z;cases q:intsOf es with
  | some ns=>
   rw[q]at Z;have Y:cont X.K E (if ns.length<64 then bQ ((sortI ns).map D.int)else M.fail) U S H (nB X.K Q):=Z;by_cases h:ns.length<64
   ·rw[if_pos h]at Y;exact .inl ⟨p,ns,T,.inl (by rw[<-fT W q];exact R),h,(bK Y rep (oH _)).2⟩
   ·rw[if_neg h]at Y;exact(au Y).elim
  | none=>
   rw[q]at Z;cases q2:rowsOf es with
   |none=>rw[q2]at Z;exact(au Z).elim
   | some nss=>
    rw[q2]at Z;have Y:cont X.K E (if nss.length<64/\two nss=b_ then bQ ((bc nss).map tupI)else M.fail) U S H (nB X.K Q):=Z;by_cases h:nss.length<64/\two nss=b_
    ·rw[if_pos h]at Y;obtain⟨g1,g2⟩:=sh W q2;refine .inr ⟨p,us,nss,T,.inl R,AN ⟨g1,g2⟩ h.2,by omega,λN I l C=>?_⟩;have L:∀i∈N,i<us.length:=λi F=>by rw[g1];exact N0.mp (I.1.mem_iff.mp F)
     have G:RelDs X.K U H ((bc nss).map tupI) (N.map λi=>us.getD i .non):=by rw[<-sg I];exact si g2 N L
     exact(bK Y rep G).2 l C
    ·rw[if_neg h]at Y;exact(au Y).elim
 unfold bG at c;split at c
 ·next k=>
  obtain⟨v,ws,rfl,J,O⟩:=r.cons_inv;cases O.nil_inv;obtain⟨p,rfl,P⟩:=J.lst_inv;obtain⟨es,us,_,R,W,Z⟩:=bI c rep P;exact fin W (.inl R) Z rfl
 ·next es=>
  obtain⟨v,ws,rfl,J,O⟩:=r.cons_inv;cases O.nil_inv;obtain⟨p,o,us,rfl,P,W⟩:=J.fz_inv;exact fin W (.inr ⟨o,P⟩) c rfl
 ·exact(au c).elim
theorem eL(Z:X.mg "sorted"=none)(Y:SE X E e m)(W:Gl X "sorted":=by rfl)(hs:dt [e] X.env=[(c_,hD e X.env)]:=by rfl):SE X E (.Call (.Name "sorted" p) [e] [] pos) (λρ=>do let ds<-(do let x<-m ρ;let xs<-aC [];aC (x::xs));bG ds):=
 i7 (d8.or vF tT) vK W Z (by decide+kernel) (af Y ah hs) (by decide) (by decide) hs rfl
end
end S3
namespace S4
open PySem PySem.Spec PyProof.Rows L2 S3
section
variable {prog:dV}{w:d_}{A:f_}{E:a_->cn->Prop}{s:cn}
theorem kX{Q:a_->cn->Prop}(Z:s.heap.IsTupleIter it t i)(R:s.heap.IsTuple t items)(S:items[i]? =ar x)
  (T:∀h',h'.IsTupleIter it t (i+1)->y4 it s.heap h'->Q x {s with heap:=h'}):ed (er prog w) A (gj (.ref it)) Q E s:=by
 obtain⟨o,Y,U,hd⟩:=id Z;obtain⟨ol,X,_,nl,W⟩:=R;unfold gj;refine NN (wpAny_callSpecial?_slot (name:=g_ "__next__") Z.typeIs Pn
  (O8 Pn Z.typeIs QV ?_ (QO _)))
 show ed _ _ (Sj (.ref it) 0>>=_) _ _ s;refine NN (OL Y hd (x:=.ref t) rfl ?_);show ed _ _ (if (ey t==i_)=b_ then _ else _) _ _ s;rw[if_neg (show ¬ ((ey t==i_)=b_)from Pd)];show ed _ _ (Sj (.ref it) 1>>=_) _ _ s;refine NN (OL Y hd (x:=.int i 0) rfl ?_);show ed _ _ (seqItems? (.ref t)>>=_) _ _ s;refine NN (PC X W ?_);simp only[A',S];refine NN (Q9 Y hd (by simp) (NT ⟨x,rfl,NT (T _ ?_ (Heap.SameBut.update ..))⟩));exact⟨_,Pu _ Y (QG (P1 hd _)),(Obj.cls_mapFields ..).trans U,by rw[P1 hd];simp[wk]⟩
theorem m4(U:A.handled=none)(Z:s.heap.IsTupleIter it t i)(R:s.heap.IsTuple t items)(S:items[i]? =none)
  (T:∀h' e,Heap.ExtBut it s.heap h'->(∃o,h'.get? e=ar o/\o.cls= .type "StopIteration")->E (.ref e) {s with heap:=h'}):ed (er prog w) A (gj (.ref it)) Q E s:=by
 obtain⟨o,W,P,hd⟩:=id Z;obtain⟨ol,Y,_,nl,X⟩:=R;unfold gj;refine NN (wpAny_callSpecial?_slot (name:=g_ "__next__") Z.typeIs Pn
  (O8 Pn Z.typeIs QV ?_ (QO _)))
 show ed _ _ (Sj (.ref it) 0>>=_) _ _ s;refine NN (OL W hd (x:=.ref t) rfl ?_);show ed _ _ (if (ey t==i_)=b_ then _ else _) _ _ s;rw[if_neg (show ¬ ((ey t==i_)=b_)from Pd)];show ed _ _ (Sj (.ref it) 1>>=_) _ _ s;refine NN (OL W hd (x:=.int i 0) rfl ?_);show ed _ _ (seqItems? (.ref t)>>=_) _ _ s;refine NN (PC Y X ?_);simp only[A',S];refine NN (QB (NN (Q9 W hd (by simp) ?_)));show ed _ _ (newExc (.type "StopIteration") []>>=_) _ _ _;refine NN ?_;simp only[newExc,newTuple];refine NN (OQ ?_ (by size_fits));refine NN (m:=firstArgMember _ _) (Si (a:=i_) (by first|rfl|(simp only[firstArgMember];rfl)) ?_);refine OQ ?_ (by size_fits);simp only[raiseNew];refine NN (wpAny_handled ?_);first|rw[show A.in1.handled=none from U]|rw[U]
 refine NN (NT (wpAny_throw ?_));exact T _ _ (((Heap.SameBut.update ..).extBut.push _).push _) ⟨_,N4 _ rfl,rfl⟩
theorem B4{z TI TO J L r u:b'}{k:Nat}{xs ys:Array a_}{x y a b:a_}{Q:Option a_->cn->Prop}(D:Sy z TI TO J L r u)
  (B:G' s.heap z TI TO .none) (i:pb s.heap TI (.ref J) (.ref L)) (l:pb s.heap TO a b)
  (h1:s.heap.IsTupleIter J r k) (h2:s.heap.IsTupleIter L u k) (a6:s.heap.IsTuple r xs) (j:s.heap.IsTuple u ys) (hx:xs[k]? =ar x) (hy:ys[k]? =ar y)
  (hQ:∀h',G' h' z TI TO (wk s.heap.objs.size)->pb h' TO x y->h'.IsTupleIter J r (k+1)->h'.IsTupleIter L u (k+1)->pb h' s.heap.objs.size x y->h'.objs.size=s.heap.objs.size+1->
   (∀c o,c≠z->c≠TO->c≠J->c≠L->s.heap.get? c=ar o->h'.get? c=ar o)->Q (ar (.ref s.heap.objs.size)) {s with heap:=h'}):ed (er prog w) A (RM (.ref z)) Q E s:=by
 have hT:s.TypeIs (.ref z) "zip":=⟨_,B,rfl⟩;unfold RM;refine NN (RL (wpAny_callSpecial?_slot (name:=g_ "__next__") hT QW (O8 QW hT F.entry_zip_next ?_ (F.args_zip_next_1 _))));show ed _ _ (Sj (.ref z) 2>>=_) _ _ _;refine NN (OL B rfl (x:=.bool c_) rfl ?_);show ed _ _ (Sj (.ref z) 3>>=_) _ _ _;refine NN (OL B rfl (x:=.ref TI) rfl ?_);refine NN (PC i rfl ?_);show ed _ _ (kr (.ref z)>>=_) _ _ _;refine NN ?_;unfold kr;refine NN (OL B rfl (x:=.none) rfl (NT ?_));simp only[if_true];refine NN (QB ?_);refine NN (OL B rfl (x:=.ref TO) rfl ?_);refine NN (Py B (by simp) λg1 C Z=>?_);replace C:G' g1 z TI TO .ellipsis:=C;refine NN ?_;simp only[List.zipIdx_cons,List.zipIdx_nil,J_,List.forIn_nil];refine NN (NN (Rl ?_));show ed _ _ (gj (.ref J)>>=_) _ _ _;refine NN (kX (s:={s with heap:=g1}) (h1.at λo e=>Z.extBut _ _ D.i1z e) (a6.extBut Z.extBut D.l1z) hx λg2 d U=>NT ?_);have K:pb g2 TO a b:=U.extBut _ _ D.TOi1 (Z.extBut _ _ D.TOz l);refine NN (PC K rfl ?_);refine NN (QM K λg3 T W=>?_);replace T:pb g3 TO x b:=T;refine NN (Sk (NT ?_));refine NN (NN (Rl ?_));show ed _ _ (gj (.ref L)>>=_) _ _ _;refine NN (kX (s:={s with heap:=g3}) (((h2.at λo e=>Z.extBut _ _ D.i2z e).at λo e=>U.extBut _ _ D.i12.symm e).at λo e=>W.extBut _ _ D.TOi2.symm e)
  (((j.extBut Z.extBut D.l2z).extBut U.extBut D.l2i1).extBut W.extBut D.l2TO) hy λg4 g R=>NT ?_)
 have N:pb g4 TO x b:=R.extBut _ _ D.TOi2 T;refine NN (PC N rfl ?_);refine NN (QM N λY X S=>?_);replace X:pb Y TO x y:=X;refine NN (Sk (NT (NT ?_)));refine NN (PC X rfl ?_);refine NN (wpAny_newTuple ?_);have p:Y.objs.size=s.heap.objs.size:=by rw[S.1,R.1,W.1,U.1,Z.1]
 have v:G' Y z TI TO .ellipsis:=S.extBut _ _ D.TOz.symm (R.extBut _ _ D.i2z.symm (W.extBut _ _ D.TOz.symm (U.extBut _ _ D.i1z.symm C)));have a5:∀c o,c≠z->c≠TO->c≠J->c≠L->s.heap.get? c=ar o->Y.get? c=ar o:=λc o c1 m c3 f e=>
  S.extBut _ _ m (R.extBut _ _ f (W.extBut _ _ m (U.extBut _ _ c3 (Z.extBut _ _ c1 e))))
 have a3:Y.IsTupleIter J r (k+1):=((d.at λo e=>W.extBut _ _ D.TOi1.symm e).at λo e=>R.extBut _ _ D.i12 e).at λo e=>S.extBut _ _ D.TOi1.symm e;have h:Y.IsTupleIter L u (k+1):=g.at λo e=>S.extBut _ _ D.TOi2.symm e;have O:z<Y.objs.size:=NV v;show ed _ _ (Builtin.SmallTypes.ownedTupleHandOut (.ref z) (.ref Y.objs.size)>>=_) _ _ _;refine NN ?_;unfold Builtin.SmallTypes.ownedTupleHandOut;have a4:G' (Y.push {cls:=.type "tuple",data:=.seq #[x,y]}) z TI TO .ellipsis:=NO _ v;refine NN (Py a4 (by simp) λg7 I H=>?_);replace I:G' g7 z TI TO (wk Y.objs.size):=I;refine Py I (by simp) λq P G=>?_;replace P:G' q z TI TO (wk Y.objs.size):=P;have up:∀c o,c≠z->Y.get? c=ar o->q.get? c=ar o:=λc o c1 e=>G.extBut _ _ c1 (H.extBut _ _ c1 (NO _ e));have t:pb q Y.objs.size x y:=G.extBut _ _ (PL O) (H.extBut _ _ (PL O) (N4 _ rfl));have n:q.objs.size=Y.objs.size+1:=by rw[G.1,H.1,OZ]
 rw[p]at P t n;refine NT ⟨_,rfl,?_⟩;refine NT ?_;show Q (ar (.ref Y.objs.size)) _;rw[p];exact hQ q P (up _ _ D.TOz X) (a3.at λo e=>up _ o D.i1z e) (h.at λo e=>up _ o D.i2z e) t n λc o c1 m c3 f e=>up c o c1 (a5 c o c1 m c3 f e)
theorem DM{z TI TO L N p u:b'}{k:Nat}{xs ys:Array a_}{a b:a_}{Q:Option a_->cn->Prop}(l:A.handled=none)(D:Sy z TI TO L N p u)
  (K:G' s.heap z TI TO .none) (q:pb s.heap TI (.ref L) (.ref N)) (y:pb s.heap TO a b)
  (f:s.heap.IsTupleIter L p k) (h2:s.heap.IsTupleIter N u k) (B:s.heap.IsTuple p xs) (t:s.heap.IsTuple u ys) (G:xs[k]? =none\/ys[k]? =none)
  (m:∀h',(∀c o,c≠z->c≠TO->c≠L->c≠N->s.heap.get? c=ar o->h'.get? c=ar o)->Q none {s with heap:=h'}):ed (er prog w) A (RM (.ref z)) Q E s:=by
 have j:s.TypeIs (.ref z) "zip":=⟨_,K,rfl⟩;unfold RM;refine NN (RL (wpAny_callSpecial?_slot (name:=g_ "__next__") j QW (O8 QW j F.entry_zip_next ?_ (F.args_zip_next_1 _))));have stop:∀(g:eg) (e:b'),(∃o,g.get? e=ar o/\o.cls= .type "StopIteration")->(∀c o,c≠z->c≠TO->c≠L->c≠N->s.heap.get? c=ar o->g.get? c=ar o)->∀R:a_->cn->Prop,
   (∀v s',ed (er prog w) A (do if<-Sz v (.type "StopIteration")then aC none else throw v) Q E s'->R v s')->R (.ref e) {s with heap:=g}:=λg e ⟨o,ho,hc⟩ hk R hR=>hR _ _ (by
  refine NN (QI (T:="StopIteration") (b:=b_) ⟨o,ho,hc⟩ Ra ?_);exact NT (m _ hk))
 show ed _ _ (Sj (.ref z) 2>>=_) _ _ _;refine NN (OL K rfl (x:=.bool c_) rfl ?_);show ed _ _ (Sj (.ref z) 3>>=_) _ _ _;refine NN (OL K rfl (x:=.ref TI) rfl ?_);refine NN (PC q rfl ?_);show ed _ _ (kr (.ref z)>>=_) _ _ _;refine NN ?_;unfold kr;refine NN (OL K rfl (x:=.none) rfl (NT ?_));simp only[if_true];refine NN (QB ?_);refine NN (OL K rfl (x:=.ref TO) rfl ?_);refine NN (Py K (by simp) λg1 S Z=>?_);replace S:G' g1 z TI TO .ellipsis:=S;refine NN ?_;simp only[List.zipIdx_cons,List.zipIdx_nil,J_,List.forIn_nil];refine NN (NN (Rl ?_));show ed _ _ (gj (.ref L)>>=_) _ _ _;cases hx:xs[k]? with
 |none=>
  refine NN (m4 (s:={s with heap:=g1}) l (f.at λo e=>Z.extBut _ _ D.i1z e) (B.extBut Z.extBut D.l1z) hx λg2 e Y he=>?_);obtain⟨r,X,U⟩:=he;have J:G' g2 z TI TO .ellipsis:=Y _ _ D.i1z.symm S;have O:e≠z:=λx=>by subst x;rw[J]at X;cases X;simp at U
  refine Py J (by simp) λg3 _ W=>?_;refine NN (QI (T:="StopIteration") (b:=b_) ⟨r,W.extBut _ _ O X,U⟩ Ra ?_);exact NT (m _ λc o c1 _ n _ x=>W.extBut _ _ c1 (Y _ _ n (Z.extBut _ _ c1 x)))
 | some x=>
  have hy:ys[k]? =none:=by rcases G with h|h;rw[hx]at h;cases h;exact h
  refine NN (kX (s:={s with heap:=g1}) (f.at λo e=>Z.extBut _ _ D.i1z e) (B.extBut Z.extBut D.l1z) hx λg2 a3 Y=>NT ?_);have P:pb g2 TO a b:=Y.extBut _ _ D.TOi1 (Z.extBut _ _ D.TOz y);refine NN (PC P rfl ?_);refine NN (QM P λg3 i W=>?_);refine NN (Sk (NT ?_));refine NN (NN (Rl ?_));show ed _ _ (gj (.ref N)>>=_) _ _ _;refine NN (m4 (s:={s with heap:=g3}) l (((h2.at λo e=>Z.extBut _ _ D.i2z e).at λo e=>Y.extBut _ _ D.i12.symm e).at λo e=>W.extBut _ _ D.TOi2.symm e)
   (((t.extBut Z.extBut D.l2z).extBut Y.extBut D.l2i1).extBut W.extBut D.l2TO) hy λg4 e H he=>?_)
  obtain⟨r,X,U⟩:=he;have C:G' g4 z TI TO .ellipsis:=H _ _ D.i2z.symm (W.extBut _ _ D.TOz.symm (Y.extBut _ _ D.i1z.symm S));have O:e≠z:=λx=>by subst x;rw[C]at X;cases X;simp at U
  refine Py C (by simp) λg5 _ I=>?_;refine NN (QI (T:="StopIteration") (b:=b_) ⟨r,I.extBut _ _ O X,U⟩ Ra ?_);exact NT (m _ λc o c1 c2 n d x=>I.extBut _ _ c1 (H _ _ d (W.extBut _ _ c2 (Y.extBut _ _ n (Z.extBut _ _ c1 x)))))
end
def FE(l:b'):Obj:={cls:=.type "tuple_iterator",data:=.fields #[.ref l,.int 0 0]}
def Jc(h:eg)(l1:b'):Heap:=h.push (FE l1)
def Jd(h:eg)(l1 l2:b'):Heap:=(Jc h l1).push (FE l2)
def Je(h:eg)(l1 l2:b'):Heap:=(Jd h l1 l2).push {cls:=.type "tuple",data:=.seq #[.ref h.objs.size,.ref (Jc h l1).objs.size]}
def J9(h:eg)(l1 l2:b'):Heap:=(Je h l1 l2).push {cls:=.type "tuple",data:=.seq #[.none,.none]}
def Jf(h:eg)(l1 l2:b'):Heap:=(J9 h l1 l2).push {cls:=.type "zip",data:=.fields #[.none,.bool c_,.bool c_,.ref (Jd h l1 l2).objs.size,.ref (Je h l1 l2).objs.size]}
theorem Jg(Z Y:b')(xs ys:Array a_):
  Tf (Builtin.«zip.__new__» ⟨[.type "zip",.ref Z,.ref Y],[]⟩) (λ_ R s=>s.heap.IsTuple Z xs/\s.heap.IsTuple Y ys/\R (.ok (.ret (.ref (J9 s.heap Z Y).objs.size))) {s with heap:=Jf s.heap Z Y}):=
 .of_wp λprog w A R s h=>by
  obtain⟨Q,g,d,S,os⟩:=s;obtain⟨U,W,h⟩:=h;have P:=sub_zip;have X:RY (Sl ⟨Q,g,d,S,os⟩) Z xs:=U;have T:RY (Sl ⟨Q.push {cls:=.type "tuple_iterator",data:=.fields #[.ref Z,.int 0 0]},g,d,S,os⟩) Y ys:=let ⟨o,e,r⟩:=W;⟨o,NO _ e,r⟩
  wp_walk using Pe X,Pe T
  exact⟨_,rfl,h⟩
section
variable {prog:dV}{w:d_}{A:f_}{E:a_->cn->Prop}{s:cn}
theorem B5{Q:a_->cn->Prop}(P:s.heap.IsTuple l1 xs)(R:s.heap.IsTuple l2 ys)
  (h:∀h',G' h' (s.heap.objs.size+4) (s.heap.objs.size+2) (s.heap.objs.size+3) .none->pb h' (s.heap.objs.size+2) (.ref s.heap.objs.size) (.ref (s.heap.objs.size+1))->
   pb h' (s.heap.objs.size+3) .none .none->h'.IsTupleIter s.heap.objs.size l1 0->h'.IsTupleIter (s.heap.objs.size+1) l2 0->(∀c o,s.heap.get? c=ar o->h'.get? c=ar o)->Q (.ref (s.heap.objs.size+4)) {s with heap:=h'}):
  ed (er prog w) A (call (.type "zip") [.ref l1,.ref l2]) Q E s:=by
 refine callType_new F.called_zip (by decide) (F.typeCall_zip_2 _ _) (F.newCall_zip_2 _ _) (λobj=>F.args_object_init_3 obj _ _) F.entry_zip_new (Jg l1 l2 xs ys) ⟨P,R,?_⟩;have U:(Jc s.heap l1).objs.size=s.heap.objs.size+1:=OZ ..;have S:(Jd s.heap l1 l2).objs.size=s.heap.objs.size+2:=(OZ ..).trans (by rw[U]);have T:(Je s.heap l1 l2).objs.size=s.heap.objs.size+3:=(OZ ..).trans (by rw[S]);have N:(J9 s.heap l1 l2).objs.size=s.heap.objs.size+4:=(OZ ..).trans (by rw[T]);have Z:∀{c o},(J9 s.heap l1 l2).get? c=ar o->(Jf s.heap l1 l2).get? c=ar o:=λe=>NO _ e;have Y:∀{c o},(Je s.heap l1 l2).get? c=ar o->(J9 s.heap l1 l2).get? c=ar o:=λe=>NO _ e;have W:∀{c o},(Jd s.heap l1 l2).get? c=ar o->(Je s.heap l1 l2).get? c=ar o:=λe=>NO _ e;have L:∀{c o},(Jc s.heap l1).get? c=ar o->(Jd s.heap l1 l2).get? c=ar o:=λe=>NO _ e;have K:∀{c o},s.heap.get? c=ar o->(Jc s.heap l1).get? c=ar o:=λe=>NO _ e;have X:(Jf s.heap l1 l2).get? (J9 s.heap l1 l2).objs.size=ar {cls:=.type "zip",data:=.fields #[.none,.bool c_,.bool c_,.ref (Jd s.heap l1 l2).objs.size,.ref (Je s.heap l1 l2).objs.size]}:=N4 _ rfl;have O:(Jf s.heap l1 l2).get? (Je s.heap l1 l2).objs.size=ar {cls:=.type "tuple",data:=.seq #[.none,.none]}:=Z (N4 _ rfl);have g3:(Jf s.heap l1 l2).get? (Jd s.heap l1 l2).objs.size=ar {cls:=.type "tuple",data:=.seq #[.ref s.heap.objs.size,.ref (Jc s.heap l1).objs.size]}:=Z (Y (N4 _ rfl));have g2:(Jf s.heap l1 l2).get? (Jc s.heap l1).objs.size=ar (FE l2):=Z (Y (W (N4 _ rfl)));have g1:(Jf s.heap l1 l2).get? s.heap.objs.size=ar (FE l1):=Z (Y (W (L (N4 _ rfl))));show _/\_;rw[S,T,N]at X;rw[U,S]at g3;rw[T]at O;rw[U]at g2;rw[N];exact⟨⟨_,X,rfl⟩,h _ X g3 O ⟨_,g1,rfl,rfl⟩ ⟨_,g2,rfl,rfl⟩ λc o x=>Z (Y (W (L (K x))))⟩
end
def CP(va vb:List V):It:=⟨λi _=>i<va.length/\i<vb.length,λi H x H'=>∃p a b,H p=none/\va[i]? =ar a/\vb[i]? =ar b/\x= .ref p/\H'=upd H p (.tup [a,b]),λi _=>va.length<=i\/vb.length<=i⟩
section
variable {X:Cx}{pins:List (b'×Obj)}{σ:L2.St}{H:Hp}{s:cn}
theorem vL{h':eg}{t':Nat}{ch:List b'}(I:L2.Inv X pins σ H s)(W:∀b∈ch,lM X pins H b)(k:∀b o,b∉ch->s.heap.get? b=ar o->h'.get? b=ar o):L2.Inv X pins σ H {s with heap:=h',toks:=t'}:=by
 have Y:∀b u,H b=ar u->b∉ch:=λb u e z=>by rw[(W b z).1]at e;cases e
 refine I.step (g':=s.gens) (d':=s.drawn) (ch:=ch) (λb R=>?_) (λb o _ _ Z e _=>k b o Z e) (λb o _ _ Z e _=>⟨o.slots,k b o Z e⟩) (λ_ _ _ _ n=>n)
  (λb o Z e=>⟨o,k b o Z e⟩) (λ_ _ e=>e) (λ_ _ _ e=>e) (λb P e=>⟨#[],by rw[e];simp⟩) (λm hm=>?_) (λb u e=>?_) I.bare
 ·obtain⟨f0,f1,f2,Q,f4,U⟩:=W b R;exact⟨Q,f1,f4,U⟩
 ·obtain⟨o,es,S,T,r⟩:=hm;exact⟨o,es,S,k _ o (λz=>(W _ z).2.1 rfl) T,r⟩
 ·refine(I.hok b u e).stay (λc v Z q=>k c v ?_ q) (λ_ q=>q) λ_ _ q=>q;rcases Z with z|z
  ·rw[z];exact Y b u e
  ·exact Y c _ z
theorem vM{h':eg}{t':Nat}{ch:List b'}{a:b'}{o:HO}(I:L2.Inv X pins σ H s)(S:∀b∈ch,lM X pins H b)(k:∀b o,b∉ch->s.heap.get? b=ar o->h'.get? b=ar o)(R:s.heap.objs.size<=a)(T:cy X.prog X.w (upd H a o) h' a o):
  L2.Inv X pins σ (upd H a o) {s with heap:=h',toks:=t'}:=by
 have Y:H a=none:=I.hok.fresh R;have W:∀b u,H b=ar u->b∉ch:=λb u e z=>by rw[(S b z).1]at e;cases e
 have ne:∀b o,s.heap.get? b=ar o->b≠a:=λb o e=>Ob (Oe (NV e) R);refine I.step (g':=s.gens) (d':=s.drawn) (ch:=ch) (λb U=>?_) (λb o _ _ Z e _=>k b o Z e) (λb o _ _ Z e _=>⟨o.slots,k b o Z e⟩) (λb o _ e n=>by rw[aO (ne b o e)];exact n)
  (λb o Z e=>⟨o,k b o Z e⟩) (λb xs e=>by rw[aO (a8 e Y)];exact e) (λb _ _ e=>by rw[aO (a8 e Y)];exact e) (λb L e=>⟨#[],by rw[aO (a8 e Y),e];simp⟩) (λm hm=>?_) (λb u e=>?_) I.bare
 ·obtain⟨f0,f1,f2,P,f4,Q⟩:=S b U;exact⟨P,f1,f4,Q⟩
 ·obtain⟨o,es,N,O,r⟩:=hm;exact⟨o,es,N,k _ o (λz=>(S _ z).2.1 rfl) O,r⟩
 ·by_cases U:b=a
  ·subst U;rw[bf]at e;cases e;exact T
  ·rw[aO U]at e;refine(I.hok b u e).stay (λc v Z q=>k c v ?_ q) (λc q=>by rw[aO (a8 q Y)];exact q) λc xs q=>by rw[aO (a8 q Y)];exact q
   rcases Z with z|z
   ·rw[z];exact W b u e
   ·exact W c _ z
end
theorem DN{P:dV}{w:d_}{K:cC}{u:List Expr}{x1}{tp:Pos}{z TI TO L N l1 l:b'}(D:Sy z TI TO L N l1 l){J G:List V}(H0:Hp->Prop)(B:∀H,H0 H↔(H l1=ar (.tup J)/\H l=ar (.tup G))):
  Turn P w K (.Tuple u x1 tp) ⟨λi H=>(CP J G).go i H/\H0 H,(CP J G).yld,λi H=>(CP J G).stop i H/\H0 H⟩ [z,TI,TO,L,N] z
   (λi h=>G' h z TI TO .none/\pb h TI (.ref L) (.ref N)/\(∃a b,pb h TO a b)/\h.IsTupleIter L l1 i/\h.IsTupleIter N l i) where
 mem:=by simp
 obj:=λi h st b Z=>by
  obtain⟨R,Y,⟨a,c,U⟩,⟨o1,e1,c1,d1⟩,⟨o2,e2,c2,d2⟩⟩:=st;simp only[eu,ee,or_false]at Z;rcases Z with rfl|rfl|rfl|rfl|rfl
  ·exact⟨_,R,λv z=>by cases z⟩
  ·exact⟨_,Y,λv z=>by cases z⟩
  ·exact⟨_,U,λv z=>by cases z⟩
  ·exact⟨_,e1,λv z=>by rw[d1]at z;cases z⟩
  ·exact⟨_,e2,λv z=>by rw[d2]at z;cases z⟩
 keep:=λi h h' st k=>by obtain⟨R,Y,⟨a,c,U⟩,F,C⟩:=st;exact⟨k z (by simp) _ R,k TI (by simp) _ Y,⟨a,c,k TO (by simp) _ U⟩,F.at λo e=>k L (by simp) o e,C.at λo e=>k N (by simp) o e⟩
 item:=by
  intro X j hw hK hc i pins s σ H E I hf st hg;subst j hw hK;obtain⟨R,Y,⟨a,c,U⟩,F,C⟩:=st;obtain⟨⟨ga,gb⟩,hH⟩:=hg;obtain⟨m,hB⟩:=(B H).mp hH;obtain⟨r,O,p1,_⟩:=I.tuple (.of m);obtain⟨t,Q,f,_⟩:=I.tuple (.of hB);obtain⟨u1,b2,n⟩:=O.get (NR ga);obtain⟨d,b6,c6⟩:=Q.get (NR gb);refine B4 D R Y U F C p1 f (x:=u1) (y:=d) (by simpa using b2) (by simpa using b6) λh' a1 a2 a3 a4 a5 a6 p=>?_;have b5:H s.heap.objs.size=none:=I.hok.fresh (NQ _);have lt:∀{c o},s.heap.get? c=ar o->s.heap.objs.size≠c:=λe=>PL (NV e);refine⟨_,rfl,Rb a1 λS b3 T=>?_⟩;have q:pb S TI (.ref L) (.ref N):=T.extBut _ _ D.TIz (p _ _ D.TIz D.TITO D.TIi1 D.TIi2 Y);have kk:∀b o,b∉[z,TI,TO,L,N]->s.heap.get? b=ar o->S.get? b=ar o:=λb o Z e=>by simp only[eu,ee,or_false,not_or]at Z;exact T.extBut _ _ Z.1 (p b o Z.1 Z.2.2.1 Z.2.2.2.1 Z.2.2.2.2 e)
  have A:pb S s.heap.objs.size u1 d:=T.extBut _ _ (lt R) a5;have I2:L2.Inv X pins σ (upd H s.heap.objs.size (.tup [J[i],G[i]])) {s with heap:=S,toks:=s.toks}:=vM (o:=.tup [J[i],G[i]]) I hf kk (NQ _) ⟨⟨by show 2<=sizeLine;decide,_,A,rfl⟩,[u1,d],.cons n (.cons c6 .nil),_,A,rfl,_,rfl⟩;refine⟨.ref s.heap.objs.size,_,I2,rfl,
   ⟨_,_,_,b5,NR ga,NR gb,rfl,rfl⟩,⟨b3,q,⟨_,_,T.extBut _ _ D.TOz a2⟩,a3.at λo e=>T.extBut _ _ D.i1z e,a4.at λo e=>T.extBut _ _ D.i2z e⟩,λb Z=>?_⟩
  obtain⟨ob,ho,_⟩:∃ob,s.heap.get? b=ar ob/\True:=by
   simp only[eu,ee,or_false]at Z;rcases Z with rfl|rfl|rfl|rfl|rfl
   ·exact⟨_,R,trivial⟩
   ·exact⟨_,Y,trivial⟩
   ·exact⟨_,U,trivial⟩
   ·obtain⟨o,e,_⟩:=F;exact⟨_,e,trivial⟩
   ·obtain⟨o,e,_⟩:=C;exact⟨_,e,trivial⟩
  rw[aO (Ob (NV ho))];exact(hf b Z).1
 done:=by intro X j hw hK hc i pins s σ H E I hf st hg;subst j hw hK;obtain⟨R,Y,⟨a,c,U⟩,F,C⟩:=st;obtain⟨gs,hH⟩:=hg;obtain⟨m,hB⟩:=(B H).mp hH;obtain⟨r,O,p1,_⟩:=I.tuple (.of m);obtain⟨t,Q,f,_⟩:=I.tuple (.of hB);have e4:=O.length;have f6:=Q.length;refine DM (I.ok.hd hc) D R Y U F C p1 f (gs.imp (λg=>by simp;omega) λg=>by simp;omega) λh' p=>⟨rfl,vL (t':=s.toks) I hf λb o Z e=>?_⟩;simp only[eu,ee,or_false,not_or]at Z;exact p b o Z.1 Z.2.2.1 Z.2.2.2.1 Z.2.2.2.2 e
 self:=λ_ _ _ _ _ st h=>QJ st.1 h
theorem zip_get{xs ys:List D}{i:Nat}{d:D}(h:((xs.zip ys).map λp=>D.tup [p.1,p.2])[i]? =ar d):∃x y,xs[i]? =ar x/\ys[i]? =ar y/\d= .tup [x,y]:=by
 rw[OR]at h;cases q:(xs.zip ys)[i]? with
 |none=>rw[q]at h;cases h
 |some p=>
  rw[q]at h;cases h;obtain⟨Y,Z⟩:=Rc.mp q;exact⟨p.1,p.2,Y,Z,rfl⟩
theorem zH{K:cC}{N:List b'}{H:Hp}{S:aK}{a b:b'}{Y X:List V}{xs ys:List D}(Z:Rep K N H S)(G:H a=ar (.tup Y))(F:H b=ar (.tup X))(B:RelDs K N H xs Y)(w:RelDs K N H ys X):
  j8 K ⟨(xs.zip ys).map λp=>.tup [p.1,p.2],.none⟩ ⟨λi H=>(CP Y X).go i H/\(H a=ar (.tup Y)/\H b=ar (.tup X)),(CP Y X).yld,λi H=>(CP Y X).stop i H/\(H a=ar (.tup Y)/\H b=ar (.tup X))⟩ N H:=by
 intro P O S2 e rep2 ok i;have T:O a=ar (.tup Y):=(e.oth a _ G (Z.notIn G (by intro _ z;cases z)) (by intro _ z;cases z) (by intro _ z;cases z)).1;have U:O b=ar (.tup X):=(e.oth b _ F (Z.notIn F (by intro _ z;cases z)) (by intro _ z;cases z) (by intro _ z;cases z)).1;have Q:=B.laterN Z e;have R:=w.laterN Z e;have s:=Q.length;have t:=R.length;refine⟨λd hd=>?_,λhlen=>?_⟩
 ·obtain⟨x,y,E,C,rfl⟩:=zip_get hd;have o:=(NX.mp E).1;have r:=(NX.mp C).1;refine⟨⟨⟨by omega,by omega⟩,T,U⟩,?_⟩;rintro v H3 ⟨p,J,I,hp,g1,g2,rfl,rfl⟩;obtain⟨v1,e1,u⟩:=Q.get' E;obtain⟨v2,e2,A⟩:=R.get' C;obtain rfl:v1=J:=Oj (e1.symm.trans g1);obtain rfl:v2=I:=Oj (e2.symm.trans g2);have L:Ext P O P (upd O p (.tup [v1,v2])):=iI hp;exact⟨L,kL rep2 hp,.tup bf (.cons (u.later rep2 L) (.cons (A.later rep2 L) .nil))⟩
 ·have q:min xs.length ys.length<=i:=by simpa using hlen
  refine⟨?_,T,U⟩;rcases Nat.le_total xs.length ys.length with z|z
  ·exact .inl (by omega)
  ·exact .inr (by omega)
end S4
namespace S3
open PySem PySem.Spec PyProof.Rows L2 S4
abbrev mV(i:Nat):TM:=λρ=>MJ ρ i
abbrev mK(d:D):TM:=λ_=>aC d
abbrev oJ(m n:TM):TM:=λρ=>do let x<-m ρ;let c<-n4 x;if c=b_ then n ρ else aC (.bl c_)
abbrev MP(m:TM):TM:=λρ=>do let x<-m ρ;let c<-n4 x;aC (.bl (!c))
abbrev Ni(t:aE->M Bool)(m n:TM):TM:=λρ=>do let k<-t ρ;if k=b_ then m ρ else n ρ
abbrev FF:=aE->M (List D)
abbrev aj:FF:=λ_=>aC []
abbrev ae(m:TM)(ms:FF):FF:=λρ=>do let x<-m ρ;let xs<-ms ρ;aC (x::xs)
abbrev dz(ms:FF):TM:=λρ=>do let ds<-ms ρ;bw ds
abbrev cX(ms:FF):TM:=λρ=>do let ds<-ms ρ;bQ ds
abbrev ak(F:List D->M D)(ms:FF):TM:=λρ=>do let ds<-ms ρ;F ds
abbrev bX(F:List D->M D)(m:TM):TM:=ak F (ae m aj)
abbrev aU(f:D->D->M D)(m n:TM):TM:=λρ=>do let x<-m ρ;let y<-n ρ;f x y
abbrev Jh(f g:D->D->M D)(m n l:TM):TM:=λρ=>do let x<-m ρ;let y<-n ρ;let z<-f x y;let k<-n4 z;if k=b_ then do let w<-l ρ;g y w else aC (.bl c_)
abbrev MQ:=aE->M (Option Int)
abbrev oN:MQ:=λ_=>aC none
abbrev oS(m:TM):MQ:=λρ=>do let x<-m ρ;let i<-Nh x;aC (ar i)
abbrev DO(m:TM)(lo hi:MQ):TM:=λρ=>do let x<-m ρ;let i<-lo ρ;let j<-hi ρ;vC x i j
abbrev xA(m:TM)(T:String):TM:=λρ=>do let x<-m ρ;I0 (λt=>Gn t T) x
abbrev zI(f:D->List D->M D)(m n:TM):TM:=λρ=>do let x<-m ρ;Ja x;let ds<-(do let y<-n ρ;let ys<-aC [];aC (y::ys));f x ds
abbrev a7(mi:aE->M Iter)(g:lR)(t:aE->M Bool)(m:TM)(js:List (Option Nat)):TM:=λρ=>do let it<-mi ρ;let ys<-gM it g t m (iK js ρ);bQ ys
abbrev fe:=aE->M Bool
abbrev bV(m:TM):fe:=λρ=>do let x<-m ρ;n4 x
abbrev d5(f:D->D->M D)(m n:TM):fe:=λρ=>do let z<-(do let x<-m ρ;let y<-n ρ;f x y);n4 z
abbrev zJ(f g:D->D->M D)(m n l:TM):fe:=λρ=>do let v<-(do let x<-m ρ;let y<-n ρ;let z<-f x y;let k<-n4 z;if k=b_ then do let w<-l ρ;g y w else aC (.bl c_));n4 v
abbrev eQ(t:fe):fe:=λρ=>do let c<-t ρ;aC (!c)
abbrev xB(t u:fe):fe:=λρ=>do let c<-t ρ;if c=b_ then u ρ else aC c_
abbrev yP(t u:fe):fe:=λρ=>do let c<-t ρ;if c=b_ then aC b_ else u ρ
abbrev eO:fe:=λ_=>aC b_
abbrev n5(m:TM):aE->M Iter:=λρ=>do let ds<-ae m aj ρ;pP ds
abbrev vN(m n:TM):aE->M Iter:=λρ=>do let ds<-ae m (ae n aj) ρ;mZ ds
abbrev bP(m:TM):aE->M Iter:=λρ=>do let x<-m ρ;K7 x
abbrev gN(i:Nat):lR:=λd ρ=>aC (ρ.set i (ar d))
abbrev LV(m n:TM):lR:=λd ρ=>do let x<-m ρ;let y<-n ρ;lX x y d;aC ρ
abbrev dG:cL:=λρ=>aC (.nx ρ)
abbrev aF(m n:cL):cL:=λρ=>do let o<-m ρ;IT o n
abbrev nO(me:TM):cL:=λρ=>do let _<-me ρ;aC (.nx ρ)
abbrev bE(me:TM):cL:=λρ=>do let d<-me ρ;aC (.ret d)
abbrev jb(t:fe)(m n:cL):cL:=λρ=>do let c<-t ρ;if c=b_ then m ρ else n ρ
abbrev cb(i:Nat)(me:TM):cL:=λρ=>do let d<-me ρ;aC (.nx (ρ.set i (ar d)))
abbrev qW(me:TM)(g:lR):cL:=λρ=>do let d<-me ρ;let ρ'<-g d ρ;aC (.nx ρ')
abbrev Gr(i j:Nat)(ms:FF):cL:=λρ=>do let ds<-ms ρ;match ds with|[d1,d2]=>aC (.nx ((ρ.set i (ar d1)).set j (ar d2)))|_=>M.fail
abbrev nz(mi:aE->M Iter)(g:lR)(b:cL):cL:=λρ=>do let it<-mi ρ;gz it g b it.items ρ
abbrev Ji(k:Nat)(t:fe)(b:cL):cL:=λρ=>lZ t b k ρ
structure DefIs(P:dV)(w:d_)(K:cC)(mg:Str->Option a_)(base:eg)(k:Nat)(x:Str)(ps:List Str)(F:List D->M D):Prop where
 ex:∃f fd,FnOk P w K mg base Ny k f fd ps (NA K F)/\mg x=ar (.ref f)/\wm K (.ref f)=b_/\Binds K fd ps []
section
variable {X:Cx}{E:XD}{e:Expr}{es:List Expr}{pos:Pos}{ms:FF}
theorem aQ{c j p}:dt (.Constant c j p::es) env=(c_,hD (.Constant c j p) env)::dt es env:=rfl
theorem gZ{l k p}:dt (.Tuple l k p::es) env=(c_,hD (.Tuple l k p) env)::dt es env:=rfl
theorem Gs{l p}:dt (.List l p::es) env=(c_,hD (.List l p) env)::dt es env:=rfl
theorem ag{x p}:dt (.Name x p::es) env=(c_,hD (.Name x p) env)::dt es env:=rfl
theorem bH{f l k p}:dt (.Call f l k p::es) env=(c_,hD (.Call f l k p) env)::dt es env:=rfl
theorem fA{a o b p}:dt (.BinOp a o b p::es) env=(c_,hD (.BinOp a o b p) env)::dt es env:=rfl
theorem aS{a b p}:dt (.Subscript a b p::es) env=(c_,hD (.Subscript a b p) env)::dt es env:=rfl
theorem zK{a b p}:dt (.UnaryOp a b p::es) env=(c_,hD (.UnaryOp a b p) env)::dt es env:=rfl
theorem zM{j p}:SE X E (.UnaryOp .USub (.Constant (.int i) j p) pos) (mK (.int (-i))):=by refine PE.imp (Kz IB CV) λσ H Q h=>?_;obtain⟨Z,S,ρ,rep,re,c⟩:=h;exact⟨i,rfl,ao c .refl rep _ (.int _)⟩
theorem eT(W:Gl X x)(Z:∃t,X.mg x=ar (.int i t))(Y:(x==("__debug__":Str))=false:=by decide):SE X E (.Name x pos) (mK (.int i)):=
 let ⟨_,h⟩:=Z
 Gf W h Y
def K9(fs:Scope)(N:List Str)(scope:Scope)(Nc:List Str)(js:List (Option Nat)):Bool:=
 (scope.kind== .function) && scope.names.all (λy=>y.2 != .cell||scope.names.lookup y.1==ar .cell) && scope.names.all (λy=>y.2 != .local||scope.names.lookup y.1==ar .local) &&
  scope.names.all (λy=>y.2 != .free||(fs.names.lookup y.1==ar .cell||fs.names.lookup y.1==ar .free)) && (js.length==Nc.length) &&
  (Nc.zip js).all (λp=>match p.2 with|none=>b_|some j=>N[j]? ==ar p.1 && scope.names.lookup p.1==ar .free)
theorem d6(fs:Scope)(N:List Str)(O:∀x,X.env.kindOf x=fs.names.lookup x)(Q:X.N=N)(h:K9 fs N scope Nc js=b_):CompScope X scope Nc js:=by
 unfold K9 at h;simp only[h_,Fn,beq_iff_eq,bne_iff_ne,ye]at h;obtain⟨⟨⟨⟨⟨Y,W⟩,S⟩,R⟩,T⟩,U⟩:=h;refine⟨Y,λy Z e=>(W y Z).resolve_left λz=>z e,λy Z e=>(S y Z).resolve_left λz=>z e,λy Z e=>?_,T,λi x j e1 e2=>?_⟩
 ·rw[O];exact(R y Z).resolve_left λz=>z e
 ·have P:(Nc.zip js)[i]? =ar (x,ar j):=Rc.mpr ⟨e1,e2⟩;have:=U _ (OC P);simp only[h_,beq_iff_eq]at this;rw[Q];exact this
theorem dY(Z:Room k A):A.units+64<cLine:=by have:=Z.un;omega
theorem HC(Z:Room k A):A.units<cLine:=by have:=Z.un;omega
end
section
variable {P:dV}{w:d_}{K:cC}{mg:Str->Option a_}{base:eg}
end
def runs{α:Type}(c:M α)(S:aK)(Q:α->aK->Prop):Prop:=∃a S',c S=ar (.ok a,S')/\Q a S'
section
variable {α β:Type}{c:M α}{f:α->M β}{S:aK}{Q Q':α->aK->Prop}{R:β->aK->Prop}
theorem vO(h:c S=ar (.ok a,S1)):runs c S Q↔Q a S1:=by
 constructor
 ·rintro⟨a',S',e,q⟩;rw[h]at e;cases e;exact q
 ·exact λq=>⟨a,S1,h,q⟩
theorem Gu(h:c S=none):runs c S Q↔False:=by
 constructor
 ·rintro⟨a',S',e,q⟩;rw[h]at e;cases e
 ·exact λq=>q.elim
theorem uE(h:runs c S Q)(k:∀a S',Q a S'->Q' a S'):runs c S Q':=let ⟨a,S',e,q⟩:=h;⟨a,S',e,k a S' q⟩
end
section
variable {S:aK}{Q:D->aK->Prop}
theorem B6:runs (bQ ds) S Q↔ds.length<=lim/\Q (.lst S.length) (S++[ds]):=by
 by_cases h:ds.length<=lim
 ·rw[vO (by unfold bQ;rw[if_pos h])];simp[h]
 ·rw[Gu (by unfold bQ;rw[if_neg h])];simp[h]
theorem fh{f:nf->nf->Bool}(Y:gO S 60 a=ar p)(Z:gO S 60 b=ar q):runs (J7 f a b) S Q↔Q (.bl (f p q)) S:=by rw[vO (by unfold J7;rw[Y,Z])]
theorem oK(X:gO S 60 a=ar p)(Y:gO S 60 b=ar q)(Z:MM f p q=ar r):runs (J8 f a b) S Q↔Q (.bl r) S:=by rw[vO (by unfold J8;rw[X,Y];simp only[Z];rfl)]
end
end S3
namespace S7
open PySem PySem.Spec PySem.W PyProof.Rows
section
variable {prog:dV}{w:d_}{A:f_}{E:a_->cn->Prop}{s:cn}{K:Tg}{x C:b'}{ox:Obj}{od:Option Obj}{name:Str}
structure ExcC(K:Tg)(C:b'):Prop where
 ga:z4 K (.ref C) "__getattribute__"=ar (ar (.builtin "BaseException.__getattribute__"))
 gt:z4 K (.ref C) "__getattr__"=ar none
 be:Tc K C (.type "BaseException")=ar b_
 ob:Tc K C (.type "object")=ar b_
 cl:z4 K (.ref C) "__class__"=ar (ar (.builtin "object.__class__"))
 gs:specialIn K (.builtin "object.__class__") "__get__"=ar (ar (.builtin "getset_descriptor.__get__"))
 tk:takesIn K (.builtin "object.__class__")=ar b_
 cd:(clsIn K C).isSome=b_
 mf:z4 K (.ref C) "many"=ar none
 ms:z4 K (.ref C) "most"=ar none
def DP(K:Tg)(C:b'):Bool:=(z4 K (.ref C) "__getattribute__"==ar (ar (.builtin "BaseException.__getattribute__"))) && (z4 K (.ref C) "__getattr__"==ar none) && (Tc K C (.type "BaseException")==ar b_) &&
 (Tc K C (.type "object")==ar b_) && (z4 K (.ref C) "__class__"==ar (ar (.builtin "object.__class__"))) && (specialIn K (.builtin "object.__class__") "__get__"==ar (ar (.builtin "getset_descriptor.__get__"))) &&
 (takesIn K (.builtin "object.__class__")==ar b_) && (clsIn K C).isSome && (z4 K (.ref C) "many"==ar none) && (z4 K (.ref C) "most"==ar none)
theorem ExcC.of(h:DP K C=b_):ExcC K C:=by unfold DP at h;simp only[h_,beq_iff_eq]at h;obtain⟨⟨⟨⟨⟨⟨⟨⟨⟨X,S⟩,Y⟩,W⟩,P⟩,R⟩,Q⟩,U⟩,T⟩,Z⟩:=h;exact⟨X,S,Y,W,P,R,Q,U,T,Z⟩
end
end S7
namespace S7
open PySem PySem.Spec PyProof.Rows L2 S3
def FH(e T C:b')(od:Option b')(fl:a_)(h:eg):Prop:=
 ∃oe vs oT ts,h.get? e=ar oe/\oe.cls= .ref C/\oe.dict=od/\oe.data= .fields vs/\vs[1]? =ar (.ref T)/\T≠e/\h.get? T=ar oT/\oT.data= .fields ts/\ts[3]? =ar fl
structure Step(fs:List b')(e T:b')(h h':eg):Prop where
 keep:∀b o,h.get? b=ar o->b≠e->b≠T->b∉fs->h'.get? b=ar o
 slot:∀b o,h.get? b=ar o->b≠e->b≠T->∃sl,h'.get? b=ar {o with slots:=sl}
 size:h.objs.size<=h'.objs.size
section
variable {M:SH}{A:f_}{E:a_->cn->Prop}{s:cn}{base:eg}{env:Env}{outer:List Env}{L e T C:b'}{od:Option b'}{fl:a_}{Q:Unit->cn->Prop}
theorem sr(o:Obj)(f:Array a_->Array a_):(E_ f o).dict=o.dict:=by obtain⟨c,d,Z,Y⟩:=o;cases Z<;>rfl
theorem entry(K:A.frames=ar (env::outer))(F:s.heap.FunFrames base (env::outer))(v:env.frame=ar L)
  (G:s.heap.get? e=ar oe) (B:oe.cls= .ref C) (y:oe.dict=od) (J:oe.data= .fields vs) (W:1<vs.size)
  (h:∀h' T',FH e T' C od (wk L) h'->s.heap.objs.size<=T'->Step (qv (env::outer)) e e s.heap h'->Q () {s with heap:=h'}):
  ed M A (do let a<-frameOf env;let N<-entryPlaceOf L hadNext;let b<-EntryCells.newEntry head a .none (wk L) .none N;setField (.ref e) 1 b) Q E s:=by
 have P:e∉qv (env::outer):=λhm=>by obtain⟨_,o,q,H⟩:=F.mem hm;rw[G]at q;cases q;exact H vs J
 refine NN (wpAny_frameOf_fun K F v λY Z=>NN (wpAny_entryPlaceOf λN X=>?_));unfold EntryCells.newEntry newFields;refine NN (OQ (?_ :ed _ _ _ _ _ _) (X.sizeOk5 _ _ _ _ _));have U:Y.get? e=ar oe:=(Z.2.1 e P).trans G;have S:=NO (h:=Y) {cls:=.type "traceback",dict:=none,data:=.fields ([head,.ref L,.none,wk L,.none]++(if N.isEmpty then k' 6 i_ else N)).toArray} U;have R:Y.objs.size≠e:=PL (NV U);have O:=P1 J (·.setIfInBounds 1 (ey Y.objs.size));refine Q9 S J W (h _ Y.objs.size ⟨_,_,_,_,Pu _ S (QG O),?_,?_,O,by simp[W],R,(OI _ _ (lx R)).trans (N4 Y rfl),rfl,?_⟩ (P4 Z.1.symm) ⟨λb o q I _ w=>?_,λb o q I _=>?_,?_⟩)
 ·rw[Obj.cls_mapFields];exact B
 ·rw[sr];exact y
 ·first|(simp;done)|(rcases X with rfl|⟨_,_,_,_,_,_,_,rfl⟩<;>simp)
 ·rw[OI _ _ (lx I)];exact NO _ ((Z.2.1 b w).trans q)
 ·obtain⟨z,x⟩:=Z.2.2 b o q;exact⟨z,by rw[OI _ _ (lx I)];exact NO _ x⟩
 ·rw[PY,OZ,Z.1];exact P3 _
theorem zN(Z:A.frames=ar (env::outer))(R:s.heap.FunFrames base (env::outer))(W:env.frame=ar L)
  (U:s.heap.get? e=ar oe) (S:oe.cls= .ref C) (P:oe.dict=od) (X:oe.data= .fields vs) (Y:vs[1]? =ar .none)
  (h:∀h' T',FH e T' C od (wk L) h'->s.heap.objs.size<=T'->Step (qv (env::outer)) e e s.heap h'->Q () {s with heap:=h'}):ed M A (zl (.ref e) env) Q E s:=by
 unfold zl;simp only[W];refine NN (OL U X Y ?_);rw[if_neg (by decide)];exact entry Z R W U S P X (Po.mp Y).1 h
theorem B7(P:A.frames=ar (env::outer))(x:s.heap.FunFrames base (env::outer))(I:env.frame=ar L)(F:FH e T C od .none s.heap)
  (h:∀h' X,FH e X C od (wk L) h'->s.heap.objs.size<=X->Step (qv (env::outer)) e T s.heap h'->Q () {s with heap:=h'}):ed M A (zl (.ref e) env) Q E s:=by
 obtain⟨t,vs,u,H,he,G,w,hd,K,R,W,Z,J⟩:=F;have S:3<H.size:=(Po.mp J).1;unfold zl;simp only[I];refine NN (OL he hd K ?_);rw[if_pos (show(ey T !=i_)=b_ from by simp)];refine NN (OL W Z J ?_);rw[if_neg (show ¬ ((i_==wk L)=b_)from by simp[wk])];refine NN (Q9 W Z S ?_);have other:∀b,b≠T->(s.heap.update T (E_ (·.setIfInBounds 3 i_))).get? b=s.heap.get? b:=λb y=>OI _ _ (lx y);have U:(s.heap.update T (E_ (·.setIfInBounds 3 i_))).FunFrames base (env::outer):=x.of_keeps λb o q N=>⟨o,(other b λz=>by rw[z,W]at q;cases q;exact N H Z).trans q,rfl⟩;refine entry (s:={s with heap:=s.heap.update T (E_ (·.setIfInBounds 3 i_))}) P U I ((other e (lx R)).trans he) G w hd (Po.mp K).1 λh' X B l st=>h h' X B ?_ ⟨λb o q Y O v=>st.keep b o ((other b O).trans q) Y Y v,λb o q Y O=>st.slot b o ((other b O).trans q) Y Y,?_⟩
 ·have:=l;rwa [PY]at this
 ·have:=st.size;rwa [PY]at this
theorem qD(F:FH e T C od fl s.heap)(h:∀h',FH e T C od .none h'->Step [] e T s.heap h'->Q () {s with heap:=h'}):ed M A (setFlight (.ref e) none) Q E s:=by
 obtain⟨J,vs,I,K,he,R,P,hd,U,X,S,Z,O⟩:=F;have Y:3<K.size:=(Po.mp O).1;refine wpAny_setFlight_none he hd U S Z Y (h _ ⟨J,vs,_,_,(OI _ _ X).trans he,R,P,hd,U,X,Pu _ S (QG (P1 Z _)),P1 Z _,by simp[Y]⟩
  ⟨λb o q N W _=>(OI _ _ (lx W)).trans q,λb o q N W=>⟨o.slots,(OI _ _ (lx W)).trans q⟩,?_⟩)
 rw[PY];exact NQ _
theorem xC(W:A.frames=ar (env::outer))(N:s.heap.FunFrames base (env::outer))(B:env.frame=ar L)
  (z:s.heap.get? e=ar oe) (S:oe.cls= .ref C) (K:oe.dict=od) (G:oe.data= .fields vs) (R:vs[1]? =ar .none)
  (h:∀h' X,FH e X C od .none h'->s.heap.objs.size<=X->Step (qv (env::outer)) e e s.heap h'->Q () {s with heap:=h'}):ed M A (RR env (.ref e)) Q E s:=by
 unfold RR;refine NN (zN W N B z S K G R λh' X F l st=>qD (s:={s with heap:=h'}) F λU P Y=>h U X P l ⟨λb o q Z J H=>?_,λb o q Z J=>?_,NZ st.size Y.size⟩)
 ·exact Y.keep b o (st.keep b o q Z Z H) Z (Ob (Oe (NV q) l)) (by simp)
 ·obtain⟨O,I⟩:=st.slot b o q Z Z;exact⟨O,Y.keep b _ I Z (Ob (Oe (NV q) l)) (by simp)⟩
theorem zO(W:A.frames=ar (env::outer))(O:s.heap.FunFrames base (env::outer))(K:env.frame=ar L)(F:FH e T C od .none s.heap)
  (h:∀h' X,FH e X C od .none h'->s.heap.objs.size<=X->Step (qv (env::outer)) e T s.heap h'->Q () {s with heap:=h'}):ed M A (RR env (.ref e)) Q E s:=by
 unfold RR;refine NN (B7 W O K F λh' X F l st=>qD (s:={s with heap:=h'}) F λS R Z=>h S X R l ⟨λb o q Y U J=>?_,λb o q Y U=>?_,NZ st.size Z.size⟩)
 ·exact Z.keep b o (st.keep b o q Y U J) Y (Ob (Oe (NV q) l)) (by simp)
 ·obtain⟨P,N⟩:=st.slot b o q Y U;exact⟨P,Z.keep b _ N Y (Ob (Oe (NV q) l)) (by simp)⟩
end
def qE(P:dV)(w:d_):CO:=λouter H s E x s'=>
 ∃(e T C:b') (od:Option b') (H':Hp),x= .ref e/\s'.os=s.os/\w_ s'.gens/\Un (qv outer) [] H H' s.heap s'.heap/\kh P w H' s'.heap/\FH e T C od .none s'.heap/\
  H' e=none/\H' T=none/\s.heap.get? e=none/\s.heap.get? T=none/\E (.ref C) od H'
theorem B8{X:Cx}:rH (qE X.prog X.w) X E0:=λ_ _ _ _ _ _ _ ⟨_,_,_,_,_,_,_,_,_,_,_,_,_,_,_,h⟩=>h.elim
theorem jM{h:eg}(q:h.get? b=ar o)(n:h.get? e=none):b≠e:=λz=>by rw[z,n]at q;cases q
theorem Un.fly(u:Un fs [] H H' h h1)(st:Step fs e T h1 h2)(S:h.get? e=none)(W:h.get? T=none):Un fs [] H H' h h2 where
 keep:=λb o q n hf Z=>st.keep b o (u.keep b o q n hf Z) (jM q S) (jM q W) hf
 slot:=λb o q n hf Z=>by obtain⟨R,X⟩:=u.slot b o q n hf Z;obtain⟨Y,U⟩:=st.slot b _ X (jM q S) (jM q W);exact⟨Y,U⟩
 free:=u.free
 there:=λb o q Z=>by obtain⟨Q,X⟩:=u.there b o q Z;obtain⟨Y,U⟩:=st.slot b _ X (jM q S) (jM q W);exact⟨_,U⟩
 tups:=u.tups
 frzs:=u.frzs
 tbls:=u.tbls
theorem kh.fly{H:Hp}(Y:kh P w H h1)(st:Step fs e T h1 h2)(U:H e=none)(X:H T=none)(W:∀b∈fs,H b=none):kh P w H h2:=λa o q=>by
 have k:∀b u,H b≠none->h1.get? b=ar u->h2.get? b=ar u:=λb u n q=>st.keep b u q (λz=>n (by rw[z];exact U)) (λz=>n (by rw[z];exact X)) λz=>n (W b z);refine(Y a o q).stay (λb u Z=>k b u ?_) (λ_ z=>z) λ_ _ z=>z;rcases Z with rfl|Z
 ·rw[q];simp
 ·rw[Z];simp
section
theorem DQ(l:List Env)(x:b')(env:Env)(h:env.frame=ar x):qv (env::l)=x::qv l:=by unfold qv;rw[Qg,h]
theorem cy.there(x:cy P w H h a o):∃Z,h.get? a=ar Z:=by
 cases o with
 |lst xs=>obtain⟨_,_,_,_,e⟩:=x;exact⟨_,e⟩
 |tup xs=>obtain⟨_,_,_,Z,e,_⟩:=x;exact⟨_,e⟩
 |dK kvs=>obtain⟨_,_,_,_,o,_,_,e,_⟩:=x;exact⟨_,e⟩
 |dT kvs=>obtain⟨_,_,_,_,o,_,_,e,_⟩:=x;exact⟨_,e⟩
 |set S n=>obtain⟨o,_,_,_,e,_⟩:=x;exact⟨_,e⟩
 |ins C dx fs=>obtain⟨_,_,_,e,_⟩:=x;exact⟨_,e⟩
 |own y=>exact x
 |xd fs=>obtain⟨_,⟨_,_,_,e,_⟩,_⟩:=x;exact⟨_,e⟩
 |rng lo hi=>obtain⟨_,_,_,e⟩:=x;exact⟨_,e⟩
 |frz Z u=>obtain⟨e,_⟩:=x;exact⟨_,e⟩
 |tbl ps=>exact⟨_,(show h.get? a=ar _ from x)⟩
 |met f y=>exact⟨_,(show h.get? a=ar _ from x)⟩
 |ext φ=>exact x.2.1
theorem kh.gone{H:Hp}(x:kh P w H h)(e:h.get? a=none):H a=none:=by
 cases q:H a with
 |none=>rfl
 |some o=>
  obtain⟨Z,e2⟩:=cy.there (x a o q);rw[e]at e2;cases e2
theorem Un.gone(u:Un fs ex H H' h h')(Z:a∉ex)(e:h'.get? a=none):h.get? a=none:=by
 cases q:h.get? a with
 |none=>rfl
 |some o=>
  obtain⟨Y,e2⟩:=u.there a o q Z;rw[e]at e2;cases e2
end
section
variable {X:Cx}{pins:List (b'×Obj)}{σ:L2.St}{H H':Hp}{s:cn}{x:a_}
end
structure LamOk(P:dV)(w:d_)(K:cC)(mg:Str->Option a_)(base:eg)(k:Nat)(f:b')(sp:Hp->VK->XK->Prop):Prop where
 fn:∃o fd,base.get? f=ar o/\o.data= .func fd
 run:∀(A:f_) (outer:List Env) (s:cn) (H:Hp) (Q:VK) (E:XK),Room k A->aE P w K mg base A outer s H->sp H Q E->sb (er P w) A (.call (.ref f) ⟨[],[]⟩) (CR (qE P w) outer P w H s Q E) s
section
variable {X:Cx}{k i jn jy:Nat}{f CW:b'}{sp:Hp->VK->XK->Prop}{x c n y:Str}{p cpos epos np p1 p2 p3 hpos tpos:Pos}
end
structure BaseL(K:cC)(mg:Str->Option a_)(base:eg):Prop where
 bm:∃bm ob,mg "__builtins__"=ar (.ref bm)/\bm≠u5/\base.get? bm=ar ob/\ob.cls= .type "module"/\ob.dict=ar u5/\ob.data= .plain
 cd:∀x∈dD,∀c P,mh K x=ar (c,P)->RZ base c P
def DR(K:cC):Prop:=∀x∈dD,∀y∈dD,∀c d P,mh K x=ar (c,P)->mh K y=ar (d,P)->x=y
section
variable {X:Cx}{pins:List (b'×Obj)}{σ:L2.St}{H:Hp}{s:cn}{x ql:Str}{c P:b'}{params:P'}{body:Expr}{scope:Scope}{pos:Pos}{clos:List (Str×b')}{Q:a_->cn->Prop}{E:a_->cn->Prop}{A:f_}
end
def MR(K:cC)(ι:List b')(H:Hp)(x:D)(cls:a_)(od:Option b'):Prop:=
 ∃n ds C,x= .exc n ds/\r7 K e_ n=ar (ar (.ref C))/\cls= .ref C/\
  ((od=none/\ds=[])\/∃dx fs,od=ar dx/\H dx=ar (.xd fs)/\fs.map (·.1)=([("many":Str),("most":Str)]:List Str)/\RelDs K ι H ds (fs.map (·.2)))
def zP(K:cC)(Ek:XK):XD:=λx ι _ H=>∀cls od,MR K ι H x cls od->Ek cls od H
def DS(K:cC)(F:List D->M D):Sp:=λvs H Q Ek=>∃ ι S ds,Rep K ι H S/\RelDs K ι H ds vs/\cont K (zP K Ek) (F ds) ι S H (nB K Q)
theorem DT{K:cC}{E E':XD}{α:Type}{c:M α}{X:List b'}{S:aK}{H:Hp}{Q:α->List b'->aK->Hp->Prop}(h:cont K E c X S H Q)(k:∀x ι' Z H',E x ι' Z H'->E' x ι' Z H'):cont K E' c X S H Q:=by
 obtain⟨r,Z,e,q⟩:=h;refine⟨r,Z,e,λY U T rep1=>?_⟩;have:=q Y U T rep1;cases r with
 |ok a=>exact this
 |ex x=>exact k x _ _ _ this
def oM{α:Type}(c:M α):M α:=λS=>match c S with
 |some (.ok a,S')=>ar (.ok a,S')
 |_=>none
theorem pR{K:cC}{E:XD}{α:Type}{c:M α}{Z:List b'}{S:aK}{H:Hp}{Q:α->List b'->aK->Hp->Prop}(h:cont K E (oM c) Z S H Q):cont K di c Z S H Q:=by
 obtain⟨r,X,e,q⟩:=h;unfold oM at e;cases z:c S with
 |none=>rw[z]at e;cases e
 |some p=>
  obtain⟨Y,S1⟩:=p;rw[z]at e;cases Y with
  |ok a=>cases e;exact⟨_,_,z,q⟩
  |ex x=>cases e
section
variable {X:Cx}{E:XD}
theorem kY{m:TM}(h:SE X di e m):SE X E e (λρ=>oM (m ρ)):=PE.imp h λ_ _ _ ⟨ι,S,ρ,rep,re,c⟩=>⟨ι,S,ρ,rep,re,pR c⟩
theorem vP{st:n_}{m:cL}(h:SS X di st m):SS X E st (λρ=>oM (m ρ)):=PS.imp h λ_ _ _ ⟨ι,S,ρ,rep,re,c⟩=>⟨ι,S,ρ,rep,re,pR c⟩
theorem xD{st:List n_}{m:cL}(h:yO X di st m):yO X E st (λρ=>oM (m ρ)):=tK.imp h λ_ _ _ ⟨ι,S,ρ,rep,re,c⟩=>⟨ι,S,ρ,rep,re,pR c⟩
theorem AO{st:List n_}{m:cL}(h:yO X.nox di st m):yO X di st m:=tK.nox h
end
structure Leaves(X:Cx)(Ek:XK):Prop where
 st:X.stack=X.env::X.outer
 fm:X.env.frame=ar X.env.locals
 ex:X.ex=[]
 xe:∀e s',ed (er X.prog X.w) X.A (RR X.env e) (λ_ s''=>qE X.prog X.w X.outer X.H₀ X.s₀ Ek e s'') (λe' s''=>qE X.prog X.w X.outer X.H₀ X.s₀ Ek e' s'') s'->X.xe e s'
 ow:P_ (er X.prog X.w) X.A X.env X.xe
section
variable {X:Cx}{Ek:XK}
theorem Leaves.pass(L:Leaves X Ek):rH (qE X.prog X.w) X Ek:=by rintro pins σ H s x s' I ⟨e,T,C,od,H',rfl,os,bare,un,hok,F,ne,nT,le,lT,hE⟩;have U:L2.Inv X pins σ H' s':=I.call' (ch:=[]) os un hok bare (λb z=>absurd z (by simp));refine L.xe _ _ (zO (base:=X.base) (outer:=X.outer) (by rw[U.ok.frames,L.st]) (by rw[<-L.st];exact U.stack) L.fm F λh' Q P l st=>?_);rw[<-L.st]at st;have Z:kh X.prog X.w H' h':=kh.fly hok st ne nT U.stkFree;have S:Un (qv X.stack) [] H H' s.heap h':=Un.fly un st le lT;have W:L2.Inv X pins σ H' {s' with heap:=h'}:=I.call' (s':={s' with heap:=h'}) (ch:=[]) os S Z bare (λb z=>absurd z (by simp));have R:=W.base;have h0:=I.base;have Y:=U.base;rw[L.ex]at R h0 Y;exact⟨e,Q,C,od,H',rfl,W.os,W.bare,R,W.hok,P,ne,hok.fresh l,Un.gone h0 (by simp) le,Un.gone Y (by simp) (OU l),hE⟩
theorem Leaves.new{H:Hp}(L:Leaves X Ek)
  (I:L2.Inv X pins σ H s') (G:s'.heap.get? e=ar oe) (N:oe.cls= .ref C) (B:oe.dict=od) (J:oe.data= .fields vs) (E:vs[1]? =ar .none) (S:H e=none) (hs:X.s₀.heap.get? e=none) (O:Ek (.ref C) od H):X.xe (.ref e) s':=by
 refine L.xe _ _ (xC (base:=X.base) (outer:=X.outer) (by rw[I.ok.frames,L.st]) (by rw[<-L.st];exact I.stack) L.fm G N B J E λh' F K l st=>?_);have Q:∀b∈qv (X.env::X.outer),H b=none:=by rw[<-L.st];exact I.stkFree
 have Y:kh X.prog X.w H h':=kh.fly I.hok st S S Q;have Z:=I.base;rw[L.ex]at Z;have P:∀b o,X.s₀.heap.get? b=ar o->b∉qv X.outer->b∉qv (X.env::X.outer):=λb o q n z=>by
  rw[DQ X.outer X.env.locals _ L.fm]at z;rcases N6.mp z with z|z
  ·exact absurd (NV q) (by rw[z];exact Sw.mpr I.ok.above)
  ·exact n z
 have ne:∀b o,X.s₀.heap.get? b=ar o->b≠e:=λb o q=>jM q hs;refine⟨e,F,C,od,H,rfl,I.os,I.bare,⟨λb o q n hf W=>?_,λb o q n hf W=>?_,Z.free,λb o q W=>?_,Z.tups,Z.frzs,Z.tbls⟩,Y,K,S,I.hok.fresh l,hs,Un.gone Z (by simp) (OU l),O⟩
 ·exact st.keep b o (Z.keep b o q n hf W) (ne b o q) (ne b o q) (P b o q hf)
 ·obtain⟨y,T⟩:=Z.slot b o q n hf W;obtain⟨U,R⟩:=st.slot b _ T (ne b o q) (ne b o q);exact⟨U,R⟩
 ·obtain⟨A,T⟩:=Z.there b o q W;obtain⟨U,R⟩:=st.slot b _ T (ne b o q) (ne b o q);exact⟨_,R⟩
theorem aM{P:dV}{w:d_}{K:cC}{Y:Str->Option a_}{base:eg}{N:List Str}{qual:Str}{scope:Scope}{f:b'}{Z:a_}{A:f_}{outer:List Env}{s₀:cn}{H₀:Hp}:
  Leaves (pG (qE P w) P w K Y base N qual scope f Z A outer s₀ H₀ Ek) Ek:=⟨rfl,rfl,rfl,λ_ _ h=>h,PassesOwn.leaving⟩
end
structure DefX(P:dV)(w:d_)(K:cC)(mg:Str->Option a_)(base:eg)(k:Nat)(x:Str)(ps:List Str)(F:List D->M D):Prop where
 ex:∃f fd,FnOk P w K mg base (qE P w) k f fd ps (DS K F)/\mg x=ar (.ref f)/\wm K (.ref f)=b_/\Binds K fd ps []
section
variable {P:dV}{w:d_}{K:cC}{mg:Str->Option a_}{base:eg}
theorem Jj{x qual:Str}{st:n_}{f:b'}{G:eb}{N X:List Str}{k:Nat}{m:cL}(F:Fun K x qual st f G)(B:FnScope N X (ai st))
  (R:∀(Z:a_) (A:f_) (outer:List Env) (s:cn) (H:Hp) (Y:XK),Room k (A.deeper (zm qual (ai st) s.heap.objs.size f Z))->K' K Z qual=b_->(∃I J T kV doc pm an ct,K.lookup f=ar ⟨I,J,.func (wR x qual (gL st) (dQ st) (ai st) .none kV doc pm an Z ct),T⟩)->
   yO (pG (qE P w) P w K mg base N qual (ai st) f Z A outer s H Y) (zP K Y) (dQ st) m):FnOk P w K mg base (qE P w) (k+1) f G X (DS K (qx N.length X.length m)):=by
 have key:∀{vs:List V} {H:Hp} {Q:VK} {Y:XK},DS K (qx N.length X.length m) vs H Q Y->vs.length=X.length/\∃U S ds,Rep K U H S/\RelDs K U H ds vs/\cont K (zP K Y) (do let o<-m (ds.map ar++k' (N.length - X.length) none);outD o) U S H (nB K Q):=by
  rintro vs H Q Y ⟨U,S,ds,rep,r,c⟩;unfold qx at c;by_cases L:ds.length=X.length
  ·rw[if_pos L]at c;exact⟨by rw[<-r.length];exact L,U,S,ds,rep,r,c⟩
  ·rw[if_neg L]at c;exact(au c).elim
 obtain⟨I,J,kV,doc,pm,an,Z,ct,T,rfl,E,O⟩:=F.ex;refine Hu E O B (λvs H Q Y h=>(key h).1) λA outer s H vs Q Y C h=>⟨_,R Z A outer s H Y C O ⟨I,J,T,kV,doc,pm,an,ct,E⟩,?_⟩;obtain⟨L,U,S,ds,rep,r,c⟩:=key h;refine⟨U,S,_,rep,?_,az (av c) λo z S1 v e1 rep1 c1=>?_⟩
 ·have:=RelE.start r (N.length - X.length);unfold L2.start;rw[L];exact this
 ·cases o with
  |nx ρ=>exact λy _=>ao c1 .refl rep1 _ .non
  |ret d=>exact ao c1 .refl rep1
  |bk ρ=>exact(au c1).elim
  |ct ρ=>exact(au c1).elim
end
section
variable {X:Cx}{Ek:XK}{e:Expr}{es:List Expr}{pos:Pos}{ms:aE->M (List D)}
theorem br(d:DefX X.prog X.w X.K X.mg X.base k x ps F)(O:Room k X.A)(T:rH (qE X.prog X.w) X Ek)(U:SA X (zP X.K Ek) (e::es) ms)(I:Gl X x:=by rfl)
  (Y:(x==("__debug__":Str))=false:=by decide) (C:dt (e::es) X.env=(c_,hD e X.env)::dt es X.env:=by rfl) (Z:(oo pos (dt es X.env)).any (·.1)=false:=by rfl):
  SE X (zP X.K Ek) (.Call (.Name x p) (e::es) [] pos) (ak F ms):=by
 obtain⟨f,fd,G,hm,J,N⟩:=d.ex;refine PE.imp (Az G O I hm J N (.nil) (E:=Ek) T U Y C Z) λσ H Q h=>?_;obtain⟨P,S,ρ,rep,re,c⟩:=h;refine⟨P,S,ρ,rep,re,az (av c) λds W S1 R e1 rep1 c1 vs L=>?_⟩;show DS X.K F (vs++[]) R Q Ek;rw[Oi];exact⟨W,S1,ds,rep1,L,c1⟩
theorem aB(d:DefX X.prog X.w X.K X.mg X.base k x ps F)(P:Room k X.A)(U:SA X di (e::es) ms)(J:Gl X x:=by rfl)
  (Y:(x==("__debug__":Str))=false:=by decide) (I:dt (e::es) X.env=(c_,hD e X.env)::dt es X.env:=by rfl) (Z:(oo pos (dt es X.env)).any (·.1)=false:=by rfl):
  SE X di (.Call (.Name x p) (e::es) [] pos) (ak F ms):=by
 obtain⟨f,fd,G,hm,L,O⟩:=d.ex;refine PE.imp (Az G P J hm L O (.nil) (E:=E0) B8 U Y I Z) λσ H Q h=>?_;obtain⟨R,S,ρ,rep,re,c⟩:=h;refine⟨R,S,ρ,rep,re,az (av c) λds W S1 T e1 rep1 c1 vs N=>?_⟩;show DS X.K F (vs++[]) T Q E0;rw[Oi];exact⟨W,S1,ds,rep1,N,DT c1 λ_ _ _ _ z=>z.elim⟩
end
def g0:List Str:=["WebError","NoWeb","NoPlaces","NoSharing","NoRoot","TooGreat"]
def Gv(n y:Str):Bool:=n==y||y=="WebError"
abbrev Ka:List Value:=[.type "ValueError",.type "Exception",.type "BaseException",.type "object"]
def DU(K:cC)(n:Str):Bool:=match r7 K e_ n with
 | some (ar (.ref C))=>DP K C && (n=="TooGreat"||SN K C Ka "ValueError.__new__") && (xn K (.ref C) (.type "ValueError")==ar b_) && (xn K (.type "NoneType") (.ref C)==ar c_) &&
  g0.all (λy=>match r7 K e_ y with
   |some (ar (.ref D))=>xn K (.ref C) (.ref D)==ar (Gv n y) && W.exmOne K (.ref C) (.ref D)==ar (Gv n y)
   |_=>c_)
 |_=>c_
def su(K:cC):Bool:=g0.all (DU K) && xn K (.type "NoneType") (.type "ValueError")==ar c_
structure ErrAt(K:cC)(n:Str)(C:b'):Prop where
 ns:r7 K e_ n=ar (ar (.ref C))
 ck:ExcC K C
 pl:n="TooGreat"\/SN K C Ka "ValueError.__new__"=b_
 ve:xn K (.ref C) (.type "ValueError")=ar b_
 nn:xn K (.type "NoneType") (.ref C)=ar c_
 sub:∀y∈g0,∃D,r7 K e_ y=ar (ar (.ref D))/\xn K (.ref C) (.ref D)=ar (Gv n y)/\W.exmOne K (.ref C) (.ref D)=ar (Gv n y)
theorem zQ{K:cC}(h:su K=b_){n:Str}(U:n∈g0):∃C,ErrAt K n C:=by
 unfold su at h;rw[OA]at h;have Z:=Of.mp h.1 n U;unfold DU at Z;split at Z
 ·next C e=>
  simp only[h_,ye,beq_iff_eq,Fn]at Z;obtain⟨⟨⟨⟨a1,a2⟩,X⟩,T⟩,Y⟩:=Z;refine⟨C,e,.of a1,a2,X,T,λy S=>?_⟩;have:=Y y S;split at this
  ·next D eD=>
   simp only[h_,beq_iff_eq]at this;exact⟨D,eD,this.1,this.2⟩
  ·cases this
 ·cases Z
theorem Gw{K:cC}(X:K.In h)(q:SN K C Ka "ValueError.__new__"=b_):∃bm N nm qn bs hdct sn sub ab col dd k0 k1 k2 k3 k5 mN,
  h.get? C=ar (vr nm qn C N bs bm hdct sn sub ab col dd k0 k1 k2 k3 k5 "ValueError.__new__")/\h.Ns N mN/\mN "__init__"=none/\So h Ka bm:=by
 unfold SN at q;split at q
 case h_2=>cases q
 case h_1 dd cd T ho=>
 split at q
 case h_2=>cases q
 case h_1 C' bm k0 k1 k2 k3 n k5 hm hs=>
 simp only[h_,beq_iff_eq,C_]at q;obtain⟨⟨⟨⟨⟨S,en⟩,Z⟩,R⟩,Y⟩,U⟩:=q;subst S en;rcases cd with⟨nm,bs,mro,ns,qn,hd,sn,sub,ab,col,del⟩;dsimp only at hm Z Y U;subst hm Z;obtain rfl:T= #[k0,k1,k2,k3,ar (.builtin "ValueError.__new__"),k5]:=by rcases T with⟨l⟩;simp only at hs;rw[hs]
 exact⟨bm,ns,nm,qn,bs,hd,sn,sub,ab,col,dd,k0,k1,k2,k3,k5,_,X _ _ ho,.of_isNs (W.isNs_of_in X Y),W.nsMap_none_of_in X Y U,W.tail_of_in X R⟩
section
variable {X:Cx}{Ek:XK}{E:XD}
theorem oO(L:Leaves X Ek)(v:X.calm=b_)(d:su X.K=b_)(g:x∈g0)(P:x≠"TooGreat")(r:SA X (zP X.K Ek) (e::es) ms)(u:Gl X x:=by rfl)
  (B:(x==("__debug__":Str))=false:=by decide) (y:dt (e::es) X.env=(c_,hD e X.env)::dt es X.env:=by rfl) (R:(oo cpos (dt es X.env)).any (·.1)=false:=by rfl):
  SS X (zP X.K Ek) (.Raise (ar (.Call (.Name x np) (e::es) [] cpos)) none pos) (λρ=>do let ds<-ms ρ;if ds.length<=lim then M.raise (.exc x [])else M.fail):=by
 intro pins s σ H T I h;obtain⟨m,S,ρ,rep,re,c⟩:=h;obtain⟨C,Q⟩:=zQ d g;have p:=Q.pl.resolve_left P;have hm:X.mg x=ar (.ref C):=Pk I.mod.kin I.mod.glob Q.ns;obtain⟨bm,N,nm,k,bs,hdct,sn,sub,ab,col,dd,k0,k1,k2,k3,k5,mN,f,b,G,w⟩:=Gw I.mod.kin p;refine wpAny_Raise_call_subU (k5:=k5) (k3:=k3) (k2:=k2) (k1:=k1) (k0:=k0) (nm:=nm) (q:=k) (C:=C) (N:=N) (bm:=bm) (bs:=bs) (hdct:=hdct) (sn:=sn) (sub:=sub) (ab:=ab) (col:=col) (dd:=dd) Pp (by decide) Pp (mN:=mN) (w.hasType PySem.F.excBase_ValueError.hasBase) (I.ok.hd v) (by rw[y];show(c_||(oo cpos (dt es X.env)).any (·.1))=c_;rw[R];rfl) G (rl I u hm ⟨rfl,?_⟩ B);have Y:=r cpos pins s σ H _ I ⟨m,S,ρ,rep,re,az (av c) λds Z S1 W e1 rep1 c1 vs O=>(⟨Z,S1,ds,rep1,O,c1⟩:∃Z S1 ds,Rep X.K Z W S1/\RelDs X.K Z W ds vs/\cont X.K (zP X.K Ek) (if ds.length<=lim then M.raise (.exc x [])else M.fail) Z S1 W _)⟩;rw[y]at Y⊢;refine QL (Oq Y (λus s2 J=>?_) λ_ _ z=>z);obtain⟨vs,W,U,l,Z,S1,ds,rep1,O,c1⟩:=J;by_cases hl:ds.length<=lim
 ·rw[if_pos hl]at c1;refine⟨rfl,?_,U.bk _ _ f,b.keeps U.bk,w.keeps U.bk,λh' ea hm=>?_⟩
  ·show us.length<=sizeLine;rw[<-l.length, <-O.length];exact NZ hl hZ
  ·obtain⟨t,j,h2,h3⟩:=hm.there;have n:L2.Inv X pins σ W {s2 with heap:=h'}:=U.kept (t':=s2.toks) hm.keeps;have A:=U.base;rw[L.ex]at A;obtain⟨a,S',o,i⟩:=c1;cases o;refine L.new n j rfl rfl rfl rfl (kh.gone U.hok hm.new) (Un.gone A (by simp) hm.new) (i Z W .refl rep1 _ _ ⟨x,[],C,rfl,Q.ns,rfl,.inl ⟨rfl,rfl⟩⟩)
 ·rw[if_neg hl]at c1;exact(au c1).elim
end
section
variable {P:dV}{w:d_}{K:cC}{mg:Str->Option a_}{base:eg}{N:List Str}{ql:Str}{scope:Scope}{f c':b'}{cl:List (Str×b')}{params:P'}{body:Expr}{pm ctv:a_}
structure Caps(base:eg)(scope:Scope)(cl:List (Str×b'))(N:List Str)(vs:List V):Prop where
 kind:scope.kind= .function
 nocell:∀y∈scope.names,y.2≠ .cell
 co:scope.isCoroutine=c_
 gen:scope.isGenerator=c_
 inj:∀x y c,cl.lookup x=ar c->cl.lookup y=ar c->x=y
 has:∀x,scope.names.lookup x=ar .free->∃c,cl.lookup x=ar c
 cell:∀x c,cl.lookup x=ar c->∃v,base.IsCell c v
 len:vs.length=N.length
 val:∀(i:Nat) (x:Str) (v:V),N[i]? =ar x->vs[i]? =ar v->scope.names.lookup x=ar .free/\∃c u,cl.lookup x=ar c/\RelV v u/\base.IsCell c (ar u)
def NF(K:cC)(c':b')(ql:Str)(ds:List D)(vs:List V)(m:TM):Hp->VK->XK->Prop:=λH Q Ek=>
 ∃ ι S,Rep K ι H S/\H c'=ar (.ext (Ge ql c'))/\RelDs K ι H ds vs/\cont K (zP K Ek) (m (ds.map ar)) ι S H (nB K Q)
end
section
variable {X:Cx}{E:XD}{k i jn jy:Nat}{a c':b'}{ql:Str}{ds:List D}{vs:List V}{m:TM}{x n y:Str}{p cpos epos np p1 p2 p3 hpos tpos:Pos}
end
structure LamScope(X:Cx)(scope:Scope)(N3:List Str)(js:List Nat):Prop where
 kind:scope.kind= .function
 nocell:∀y∈scope.names,y.2≠ .cell
 co:scope.isCoroutine=c_
 gen:scope.isGenerator=c_
 free:∀y∈scope.names,y.2= .free->X.env.kindOf y.1=ar .cell\/X.env.kindOf y.1=ar .free
 len:js.length=N3.length
 ix:∀(i:Nat) (x:Str) (j:Nat),N3[i]? =ar x->js[i]? =ar j->X.N[j]? =ar x/\scope.names.lookup x=ar .free
def La(K:cC)(R:D->M D->List D->M D)(a c':b')(ql:Str)(ds:List D)(vs:List V)(m:TM):Sp:=λus H Q _=>
 ∃ ι S rest es,us= .ref a::rest/\Rep K ι H S/\H c'=ar (.ext (Ge ql c'))/\RelDs K ι H ds vs/\RelDs K ι H es rest/\cont K di (R (.fn a c' ql ds vs) (m (ds.map ar)) es) ι S H (nB K Q)
structure RefX(P:dV)(w:d_)(K:cC)(mg:Str->Option a_)(k k0:Nat)(x:Str)(ps:List Str)(R:D->M D->List D->M D):Prop where
 ex:∃fr fd,mg x=ar (.ref fr)/\wm K (.ref fr)=b_/\Binds K fd ps []/\∀base,Mod K mg base->∀a c' ql ds vs m,LamOk P w K mg base k0 a (NF K c' ql ds vs m)->FnOk P w K mg base (qE P w) k fr fd ps (La K R a c' ql ds vs m)
section
variable {X:Cx}{pins:List (b'×Obj)}{σ:L2.St}{H:Hp}{s:cn}
end
section
variable {X:Cx}{x xl ql:Str}{k k0:Nat}{ps N3:List Str}{js:List Nat}{R:D->M D->List D->M D}{R':M D->List D->M D}{params:P'}{body:Expr}{scope:Scope}{lpos p pos:Pos}{es:List Expr}{ms:aE->M (List D)}{m:TM}{c P:b'}
end
def mq(K:cC):List Addr:=dD.filterMap λy=>(mh K y).map (·.2)
theorem B9{K:cC}{y:Str}{c P:b'}(Z:y∈dD)(e:mh K y=ar (c,P)):P∈mq K:=Pr.mpr ⟨y,Z,by rw[e];rfl⟩
theorem xE{K:cC}{P:b'}(h:P∈mq K):∃y c,y∈dD/\mh K y=ar (c,P):=by
 obtain⟨y,Z,e⟩:=Pr.mp h;cases q:mh K y with
 |none=>rw[q]at e;cases e
 |some p=>rw[q]at e;cases e;exact⟨y,p.1,Z,q⟩
theorem Gx{K:cC}{l:Str->Option a_}{sp:Sp}{Z:cn}{vs:List a_}
  (KX:K.In Z.heap) (nt:SX K=b_) (i:Z.heap.Ns e_ mg) (n:Z.heap.Ns u5 l) (a3:∀x:Str,x≠"__name__"->l x=k_ x) (C:Z.heap.NoLimit) (hg:Z.gens= #[])
  (f:∃bm G,mg "__builtins__"=ar (.ref bm)/\bm≠u5/\Z.heap.get? bm=ar G/\G.cls= .type "module"/\G.dict=ar u5/\G.data= .plain)
  (U:∀y∈dD,∀c Q,mh K y=ar (c,Q)->RZ Z.heap c Q/\Z.heap.get? Q=ar (z_ #[]))
  (I:Z.heap.get? a=ar {cls:=.type "list",data:=.seq vs.toArray}) (hi:ma vs ns) (hl:ns.length<=sizeLine) (hr:Room k wz)
  (F:∀base:eg,Mod K mg base->BaseL K mg base->FnOk P w K mg base (qE P w) k fa fd [x] sp) (L:∀(s:cn) (u:a_),B_ s fd ⟨[u],[]⟩ [(x,u)])
  (g:∀H:Hp,TabsOk K H->FB K H a (ns.map V.int)->sp [.ref a] H (λv _=>v= .bl b_) λ_ _ _=>False):
  sb (er P w) wz (.call (.ref fa) ⟨[.ref a],[]⟩) (λr s'=>r= .ok (.ret (.bool b_))/\OldK Z.heap s'.heap/\s'.os=Z.os/\w_ s'.gens) Z:=by
 have rv:=ki hi;have X:∀Q∈mq K,Z.heap.get? Q=ar (z_ #[]):=λQ hQ=>let ⟨y,c,R,e⟩:=xE hQ;(U y R c Q e).2;have aT:a∉mq K:=λz=>by have:=X a z;rw[I]at this;cases this
 let H:Hp:=λb=>if b∈mq K then ar (.tbl #[])else if b=a/\K.lookup a=none then ar (.frz {cls:=.type "list",data:=.seq vs.toArray} (.lst (ns.map V.int)))else none;have j:∀b∈mq K,H b=ar (.tbl #[]):=λb z=>if_pos z;have J:∀b,b∉mq K->H b=if b=a/\K.lookup a=none then ar (.frz {cls:=.type "list",data:=.seq vs.toArray} (.lst (ns.map V.int)))else none:=λb z=>if_neg z;have free:∀{b:b'} {o:Obj},Z.heap.get? b=ar o->o≠z_ #[]->(o.cls≠ .type "list"\/K.lookup b=ar o)->H b=none:=λ{b o} e n1 T=>by
  have z:b∉mq K:=λz=>by have:=X b z;rw[e]at this;exact n1 (Oj this)
  rw[J b z,if_neg];rintro⟨rfl,kn⟩;rcases T with T|T
  ·rw[I]at e;cases e;exact T rfl
  ·rw[kn]at T;cases T
 have N:∀{b:b'} {o:Obj},K.lookup b=ar o->o≠z_ #[]:=λ{b o} e z=>by have h2:=Of.mp nt (b,o) (W.mem_of_lookupK e);subst z;exact absurd (show c_=b_ from h2) Pd
 have B:kh P w H Z.heap:=λb u e=>by
  by_cases z:b∈mq K
  ·rw[j b z]at e;cases e;exact X b z
  ·rw[J b z]at e;by_cases q:b=a/\K.lookup a=none
   ·rw[if_pos q]at e;cases e;obtain⟨rfl,_⟩:=q;exact⟨I,by rw[NM];exact hl,vs,_,rv,I⟩
   ·rw[if_neg q]at e;cases e
 have Y:∀{b:b'} {o:Obj},Z.heap.get? b=ar o->o≠z_ #[]->(o.cls≠ .type "list"\/K.lookup b=ar o)->(nI Z.heap H).get? b=ar o:=λe n1 T=>rD e (free e n1 T);have O:∀{b:b'} {m:Str->Option a_},Z.heap.Ns b m->(nI Z.heap H).Ns b m:=λ{b m} ⟨o,es,ep,e,d,r⟩=>by
  have z:H b=none:=by
   by_cases zt:b∈mq K
   ·have:=X b zt;rw[e]at this;cases this;cases d
   ·rw[J b zt,if_neg];rintro⟨rfl,_⟩;rw[I]at e;cases e;cases d
  exact⟨o,es,ep,rD e z,d,r⟩
 have a5:K.In (nI Z.heap H):=λb o e=>Y (KX b o e) (N e) (.inr e);have hM:Mod K mg (nI Z.heap H):=⟨a5,O i,⟨l,O n,a3⟩,let ⟨mc,h1,h2⟩:=C;⟨mc,O h1,h2⟩⟩;have hB:BaseL K mg (nI Z.heap H):=by
  refine⟨?_,λy R c Q e=>?_⟩
  ·obtain⟨bm,G,b1,b2,b3,A,b5,b6⟩:=f;exact⟨bm,G,b1,b2,Y b3 (λz=>by rw[z]at A;cases A) (.inl (by rw[A];decide)),A,b5,b6⟩
  ·obtain⟨o,v2,file,tf,flags,tg,a0,text,tt,e1,t,r⟩:=(U y R c Q e).1;exact⟨o,v2,file,tf,flags,tg,a0,text,tt,Y e1 (λz=>by rw[z]at t;cases t) (.inl (by rw[t];decide)),t,r⟩
 have e0:L2.aE P w K mg (nI Z.heap H) wz [] Z H:=⟨rfl,hM,λb o e=>Aw e,P4 (ug _ _),trivial,λb n=>absurd (show b∈([]:List b')from n) (by simp),B,.of_eq hg⟩;have p:TabsOk K H:=λy R c Q e=>⟨#[],j Q (B9 R e),trivial,λpos cv q=>by cases q⟩;have E:FB K H a (ns.map V.int):=by
  cases hk:K.lookup a with
  |some o=>
   have e:=KX a o hk;rw[I]at e;cases e;exact .inr ⟨_,vs.toArray,_,hk,rfl,rfl,rfl,by rw[N5,hi.length];exact hl,by simpa using rv⟩
  |none=>exact .inl ⟨_,by rw[J a aT,if_pos ⟨rfl,hk⟩]⟩
 refine Qj ((F _ hM hB).run wz [] Z H ⟨[.ref a],[]⟩ [.ref a] [.ref a] _ _ hr e0 (L Z (.ref a)) (.cons rfl .nil) (g H p E)) λr s' h=>?_;cases r with
 |error e=>obtain⟨_,_,_,_,_,_,_,_,_,_,_,_,_,_,_,z⟩:=h;exact ke z
 | ok fl=>
  cases fl with
  |next=>exact ke h
  |brk=>exact ke h
  |cont=>exact ke h
  | ret u=>
   obtain⟨v,H',os,bare,un,S,r',q⟩:=h;have q':v= .bl true:=q;subst q';obtain rfl:u=u4 true:=r';refine⟨rfl,⟨λb o e=>?_,λb o e=>un.there b o e (by simp)⟩,os,bare⟩;by_cases zt:b∈mq K
   ·obtain⟨y,c,R,et⟩:=xE zt;obtain⟨hc,hP⟩:=U y R c b et;obtain⟨more,em⟩:=un.tbls b _ (j b zt);have o2:s'.heap.get? b=ar {cls:=.none,data:=.fields (#[]++more)}:=S b _ em;rw[hP]at e;cases e;exact .inr (.inl ⟨(hc.tab hP).isCodeTable,rfl, #[],more,rfl,o2⟩)
   ·by_cases qa:b=a/\K.lookup a=none
    ·have z1:H b=ar (.frz {cls:=.type "list",data:=.seq vs.toArray} (.lst (ns.map V.int))):=by rw[J b zt,if_pos qa]
     obtain⟨e2,_⟩:=S b _ (un.frzs b _ _ z1);obtain⟨e1,_⟩:=B b _ z1;rw[e]at e1;cases e1;exact .inl e2
    ·exact .inl (un.keep b o e (by rw[J b zt,if_neg qa]) (by intro z;exact absurd (show b∈([]:List b')from z) (by simp)) (by simp))
theorem DV{l:SJ}{YP:d_->eg->Prop}{d:SY}{K:D_->cC}{sp:d_->Sp}
  (C:l.most=ar n) (P:n<=sizeLine) (O:d.params.defaults=[]) (B:Room k wz)
  (p:∀(w:d_) (h:eg),YP w h->(K w.params).In h) (j:∀w:d_,SX (K w.params)=b_)
  (U:∀(w:d_) (h:eg),YP w h->∀y∈dD,∀c Q,mh (K w.params) y=ar (c,Q)->RZ h c Q/\h.get? Q=ar (z_ #[]))
  (F:∀(w:d_) (Z:Str->Option a_) (S:b') (h:eg),(K w.params).In h->h.Ns e_ Z->Z d.name=ar (.ref S)->
   ∃fd:eb,(∀(s:cn) (u:a_),B_ s fd ⟨[u],[]⟩ [(x,u)])/\
    ∀base:eg,Mod (K w.params) Z base->BaseL (K w.params) Z base->FnOk l.prog w (K w.params) Z base (qE l.prog w) k S fd [x] (sp w))
  (R:∀(w:d_) (H:Hp) (a:b') (ns:List Int),ns.length<=n->TabsOk (K w.params) H->FB (K w.params) H a (ns.map V.int)->sp w [.ref a] H (λv _=>v= .bl b_) λ_ _ _=>False):
  Ta q loose XP YP l.row.toRowW d [] (λf vs=>PySem.call f vs):=by
 refine Att.attach_call C O λw s₀ L Z i S o pm cd doc a vs ns G Y ho hd I N X hints hlen t=>?_;have J:=p w _ Y;obtain⟨fd,A,E⟩:=F w Z S _ J G.T.g N;refine Gx J (j w) G.T.g G.T.b G.T.builtins G.T.nolimit t G.T.bmain (λy z c Q e=>U w _ Y y z c Q e) X hints (NZ hlen P) B E A λH m r=>R w H a ns hlen m r
def Lc(K:cC)(ts:List b'):Bool:=dD.all λy=>match mh K y with
 |some (c,Q)=>W.codeHdIn K c Q && ts.contains Q
 |none=>b_
theorem MS{K:D_->cC}{e:∀P,as=(K P).map (·.1)}{w:d_}(U:Lc (K w.params) ts=b_)(Y:(W.kmHook K as e ts).says w h):
  ∀y∈dD,∀c Q,mh (K w.params) y=ar (c,Q)->RZ h c Q/\h.get? Q=ar (z_ #[]):=λy X c Q Z=>by
 have:=Of.mp U y X;rw[Z]at this;simp only[h_]at this;exact⟨W.codeHd_of_K (W.km_in_of Y) this.1,W.km_tabs_of Y Q (List.contains_iff_mem.mp this.2)⟩
def HD(K:cC):Bool:=dD.all λx=>dD.all λy=>match mh K x,mh K y with
 |some (_,P),ar (_,Q)=>P !=Q||x==y
 |_,_=>b_
theorem Jk{K:cC}(h:HD K=b_):DR K:=λx Z y Y c d P e1 e2=>by have:=Of.mp (Of.mp h x Z) y Y;rw[e1,e2]at this;simpa using this
def j9(N n:Nat)(m:cL):List D->M D:=qx N n (λρ=>oM (m ρ))
section
variable {P:dV}{w:d_}{K:cC}{mg:Str->Option a_}{base:eg}
theorem bC{x qual:Str}{st:n_}{f:b'}{U:eb}{N X:List Str}{k:Nat}{m:cL}{T:List D->M D}(F:Fun K x qual st f U)(L:mg x=ar (.ref f))(Q:Binds K U X [])(O:FnScope N X (ai st))(S:T=j9 N.length X.length m)
  (Y:∀(Z:a_) (A:f_) (outer:List Env) (s:cn) (H:Hp) (E:XK),Room k (A.deeper (zm qual (ai st) s.heap.objs.size f Z))->
   yO (pG (qE P w) P w K mg base N qual (ai st) f Z A outer s H E).nox di (dQ st) m):DefX P w K mg base (k+1) x X T:=
 ⟨f,U,by rw[S];exact Jj F O λZ A outer s H J R _ _=>xD (AO (Y Z A outer s H J R)),L,F.kp,Q⟩
theorem ef{x qual:Str}{st:n_}{f:b'}{U:eb}{N X:List Str}{k:Nat}{m:cL}{T:List D->M D}(F:Fun K x qual st f U)(L:mg x=ar (.ref f))(Q:Binds K U X [])(O:FnScope N X (ai st))(S:T=qx N.length X.length m)
  (Y:∀(Z:a_) (A:f_) (outer:List Env) (s:cn) (H:Hp) (E:XK),Room k (A.deeper (zm qual (ai st) s.heap.objs.size f Z))->
   yO (pG (qE P w) P w K mg base N qual (ai st) f Z A outer s H E) (zP K E) (dQ st) m):DefX P w K mg base (k+1) x X T:=
 ⟨f,U,by rw[S];exact Jj F O λZ A outer s H J R _ _=>Y Z A outer s H J R,L,F.kp,Q⟩
theorem Gy{x y qual:Str}{f c R:b'}{J:a_}{N:Option b'}{X:Array (Option a_)}{kV U Q Y ct I:a_}{O:Option b'}{L:P'}{bd:List n_}{T:Scope}(S:r7 K e_ x=ar (ar (.ref f)))
  (H:K.lookup f=ar ⟨J,N,.func (wR y qual L bd T I kV U Q O Y ct),X⟩) (Z:mh K x=ar (c,R)):Y= .ref c:=by
 unfold mh at Z;rw[S]at Z;dsimp only at Z;rw[H]at Z;dsimp only at Z;cases Y with
 | ref c2=>
  dsimp only at Z;split at Z
  ·split at Z
   ·cases Z;rfl
   ·cases Z
  ·cases Z
 |_=>cases Z
theorem Jl{x qual:Str}{st:n_}{f:b'}{S:eb}{N X:List Str}{k:Nat}{m:cL}{T:List D->M D}{c L:b'}(F:Fun K x qual st f S)(C:FnScope N X (ai st))(Q:T=j9 N.length X.length m)(O:r7 K e_ x=ar (ar (.ref f)))(J:mh K x=ar (c,L))
  (Z:∀(A:f_) (outer:List Env) (s:cn) (H:Hp) (E:XK),Room k (A.deeper (zm qual (ai st) s.heap.objs.size f (.ref c)))->
   yO (pG (qE P w) P w K mg base N qual (ai st) f (.ref c) A outer s H E).nox di (dQ st) m):FnOk P w K mg base (qE P w) (k+1) f S X (DS K T):=by
 rw[Q];refine Jj F C λY A outer s H B G _ U=>?_;obtain⟨v,y,I,kV,doc,pm,an,ct,z⟩:=U;have R:Y= .ref c:=Gy O z J;subst R;exact xD (AO (Z A outer s H B G))
end
end S7
section
namespace S4
open PySem PySem.Spec PyProof.Rows
section
variable {prog:dV}{w:d_}{A:f_}{E:a_->cn->Prop}{s:cn}
theorem vQ{h:eg}(e:h.get? a=ar (eN (jL w))):h.SetOf (O' prog w) a (λk=>(A_ val 0).any (· ==k)) (A_ val 0).length:=
 ⟨_, #[],0,.fresh 0 0 (jL w),e,⟨rfl,rfl,rfl⟩,rfl,(λx Z=>by cases Z),(λk=>⟨(λz=>by cases z),λ⟨x,Z,_⟩=>by cases Z⟩),(by decide),rfl,rfl⟩
set_option maxHeartbeats 8000000 in
theorem Gz(q:A.handled=none)(r:Src s.heap x items)(Z:Nat->Int)(X:∀(i:Nat) (v:a_),items[i]? =ar v->∃t,v= .int (Z i) t)(j:items.size<=76)
  (h:∀(h':eg) (tk:Nat),h'.SetOf (O' prog w) s.heap.objs.size (λk=>(A_ Z items.size).any (· ==k)) (A_ Z items.size).length->(∀b o,b<s.heap.objs.size->s.heap.get? b=ar o->h'.get? b=ar o)->
   Q (.ref s.heap.objs.size) {s with heap:=h',toks:=tk}):ed (er prog w) A (call (.type "set") [.ref x]) Q E s:=by
 obtain⟨c,tl,G⟩:=F.called_set.mro;have N:=F.called_set.made;have u:=F.called_set.sub;refine RG (QU ?_);show ed _ _ (callAny (.type "set") _) _ _ _;refine NT ⟨Q6 _ (by decide+kernel),codeAny_builtin F.entry_type_call ?_⟩;rw[Around.under_plain (weight_type_call_type "set" [.ref x] []) rfl];have h1:=F.called_set.notType;have h2:=F.called_set.canCreate;have a3:=F.typeCall_set_1 (.ref x)
 repeat (any_goals (first|assumption|wp_step))
 refine Qj (MO (.ref x) (E:=E) (Q1:=λobj s1=>obj= .ref s.heap.objs.size/\s1={s with heap:=s.heap.push (eN (jL w))}) ⟨rfl,rfl⟩) λn s1 P=>?_;cases n with
 |error e=>exact P
 | ok fl=>
  cases fl with
  | ret obj=>
   obtain⟨rfl,rfl⟩:=P;have B:(s.heap.push (eN (jL w))).get? s.heap.objs.size=ar (eN (jL w)):=N4 _ rfl;have H:Shared.TypeIs {s with heap:=s.heap.push (eN (jL w))} (.ref s.heap.objs.size) "set":=⟨_,B,rfl⟩;have g:=F.called_set.init.lookup;have a4:=F.called_set.init.bind (.ref s.heap.objs.size)
   repeat (any_goals (first|assumption|wp_step))
   refine Qj (codeAny_call_builtin (R:=wants (λr s2=>r= .none/\Q (.ref s.heap.objs.size) s2) E) F.called_set.init.plain F.entry_set_init (check_set_init_1 H ?_)) λr2 s2 Y=>?_
   ·have y:Src (s.heap.push (eN (jL w))) x items:=r.at λo e=>NO _ e;obtain⟨Tx,a,l,a5,hd⟩:=DL (s:={s with heap:=s.heap.push (eN (jL w))}) y;unfold Builtin.«set.__init__» noKeywords Builtin.Frozenset.updateFrom;generalize hPI:RN=PI;have f:=H;unfold eN at B
    wp_walk
    subst hPI;refine DK (s:={s with heap:=s.heap.push (eN (jL w))}) y λz St W O=>?_;refine NN (wpAny_runValue ?_);have J:x<s.heap.objs.size:=r.lt;have U:(s.heap.push (eN (jL w))).objs.size=s.heap.objs.size+1:=OZ _ _;have I:s.heap.objs.size∉[(s.heap.push (eN (jL w))).objs.size,x]:=by rw[U];simp only[eu,ee,or_false,not_or];exact⟨Ob (PX _),PL J⟩
    have T:A.in1.in1.in1.handled=none:=by simp[q]
    have up:∀b o,s.heap.get? b=ar o->((s.heap.push (eN (jL w))).push z).get? b=ar o:=λb o e=>NO _ (NO _ e);have S0:((s.heap.push (eN (jL w))).push z).SetOf (O' prog w) s.heap.objs.size (λk=>(A_ Z 0).any (· ==k)) (A_ Z 0).length:=vQ (NO _ (N4 _ rfl));refine codeAny_set_update_loopS ((W _ T).toS) s.heap.objs.size I Z X (PZ (PV j) (by decide)) (items.size - 0) 0 _ rfl (Og _) O S0 λs' hm S=>?_
    ·obtain⟨h',g',d',K,L⟩:=s';have p:g'=s.gens:=hm.gens;have d:d'=s.drawn:=hm.drawn;have m:L=s.os:=hm.os;subst p d m;show ed _ _ _ _ _ _;refine NT ?_;show ed _ _ (ret i_) _ _ _;refine NT ⟨rfl,h h' K S λb o C e=>?_⟩;refine hm.heap b o ?_ (up b o e);rw[U];simp only[eu,ee,or_false,not_or];exact⟨Ob C,Ob (O1 C)⟩
   ·cases r2 with
    |error e=>exact Y
    | ok fl2=>
     cases fl2 with
     |ret rv=>
      obtain⟨rfl,hq⟩:=Y
      repeat (any_goals (first|assumption|wp_step))
     |_=>exact Y.elim
  |_=>exact P.elim
end
end S4
namespace S3
open PySem PySem.Spec PyProof.Rows L2 S4
section
variable {X:Cx}{E:XD}{e:Expr}{m:TM}{pos:Pos}
def distinct(ns:List Int):List Int:=A_ (λi=>ns.getD i 0) ns.length
theorem Ca(R:X.calm=b_):d8 X (.type "set") (λxs H Q=>∃(p:b') (ns:List Int),xs=[.ref p]/\(lQ X.K H p (ns.map V.int)\/mR X.K H p (ns.map V.int))/\ns.length<=76/\
  ∀l,H l=none->Q (.ref l) (upd H l (.set (λk=>(distinct ns).any (· ==k)) (distinct ns).length))):=by
 intro pins s σ H xs us Q I r h;obtain⟨p,ns,rfl,Y,G,q⟩:=h;obtain⟨u,rfl,O⟩:=vals1 r;cases (show u=ey p from O);have src:∃its,bJ (ns.map V.int) its/\Src s.heap p its.toArray:=by
  rcases Y with Y|Y
  ·obtain⟨its,Z,T,J⟩:=I.list Y;exact⟨its,Z,.inl T.isList⟩
  ·obtain⟨its,Z,T,J⟩:=I.tuple Y;exact⟨its,Z,.inr T⟩
 obtain⟨its,Z,hs⟩:=src;have P:=QQ Z;have W:=Z.length;rw[NM]at W;have U:its.toArray.size=ns.length:=by rw[N5,W]
 refine Gz (I.ok.hd R) hs (λi=>ns.getD i 0) (λi v L=>P.int_at i v (by simpa using L)) (by omega) λh' F S N=>?_;rw[U]at S;have hf:H s.heap.objs.size=none:=I.hok.fresh (NQ _);exact⟨.ref s.heap.objs.size,_,I.laid (o:=.set (λk=>(distinct ns).any (· ==k)) (distinct ns).length) (λb o e=>N b o (NV e) e) (NQ _) S,rfl,q _ hf⟩
theorem tU:d8 X (.builtin "len") (λxs H Q=>∃p S n,xs=[.ref p]/\H p=ar (.set S n)/\Q (.int n) H):=by
 intro pins s σ H xs us Q I r h;obtain⟨p,S,n,rfl,T,q⟩:=h;obtain⟨u,rfl,Y⟩:=vals1 r;cases (show u=ey p from Y);obtain⟨o,es,R,t,U,hex,hd,_,_,P,Z,W⟩:=(show s.heap.SetOf (O' X.prog X.w) p S n from I.hok p _ T);have:(es.size:Int)<2 ^ 63:=by
  have:scanBound<=2 ^ 62:=by decide
  omega
 exact call_len_set U hex hd Z this ⟨.int n,H,I.tok _,⟨_,by rw[W]⟩,q⟩
def m5:List D->M D
 |[.tup ds]=>match intsOf ds with
  |some ns=>if ns.length<=76 then aC (.int (distinct ns).length)else M.fail
  |none=>M.fail
 |_=>M.fail
theorem Cb(R:X.calm=b_)(L:X.mg "len"=none)(U:X.mg "set"=none)(P:SE X E e m)(I:Gl X "len":=by rfl)(W:Gl X "set":=by rfl)(hs:dt [e] X.env=[(c_,hD e X.env)]:=by rfl)
  (Y:dt [.Call (.Name "set" q) [e] [] pos2] X.env=[(c_,hD (.Call (.Name "set" q) [e] [] pos2) X.env)]:=by rfl):
  SE X E (.Call (.Name "len" p) [.Call (.Name "set" q) [e] [] pos2] [] pos) (bX m5 m):=by
 refine PE.imp (rJ tU I L (by decide+kernel) (kI (mS (Ca R) W U (by decide+kernel) (kI P pF hs) (by decide) (by decide) hs rfl) pF Y) (by decide) (by decide) Y rfl) λσ H Q h=>?_;obtain⟨T,S,ρ,rep,re,c⟩:=h;have c:cont X.K E (do let ds<-(do let x<-m ρ;let xs<-aC [];aC (x::xs));m5 ds) T S H (nB X.K Q):=c;simp only[fg,aq]at c;refine⟨T,S,ρ,rep,re,az (av c) λx J S1 G e1 rep1 c1 v r=>?_⟩;cases x with
 | tup ds=>
  obtain⟨a,vs,rfl,O,N⟩:=r.tup_inv;dsimp only[m5]at c1;cases z:intsOf ds with
  |none=>rw[z]at c1;exact(au c1).elim
  | some ns=>
   rw[z]at c1;dsimp only at c1;by_cases hl:ns.length<=76
   ·rw[if_pos hl]at c1;refine⟨a,ns,rfl,.inr ?_,hl,λl Z=>⟨l,_,_,rfl,bf,?_⟩⟩
    ·rw[<-fT N z];exact mR.of O
    ·exact ao c1 (iI Z) (kL rep1 Z) _ (.int _)
   ·rw[if_neg hl]at c1;exact(au c1).elim
 |_=>exact(au c1).elim
end
end S3
end
namespace S4
open PySem PySem.Spec PyProof.Rows L2 S3
def GA(l1 l2:b'):It:=⟨λi H=>∃va vb,Rd H l1 (.lst va)/\Rd H l2 (.lst vb)/\i<va.length/\i<vb.length,
 λi H x H'=>∃va vb p u v,Rd H l1 (.lst va)/\Rd H l2 (.lst vb)/\H p=none/\va[i]? =ar u/\vb[i]? =ar v/\x= .ref p/\H'=upd H p (.tup [u,v]),λi H=>∃va vb,Rd H l1 (.lst va)/\Rd H l2 (.lst vb)/\(va.length<=i\/vb.length<=i)⟩
theorem Cc{P:dV}{w:d_}{K:cC}{C:List Expr}{x1}{tp:Pos}{z TI TO L N l1 l:b'}(D:Sy z TI TO L N l1 l):
  Turn P w K (.Tuple C x1 tp) (GA l1 l) [z,TI,TO,L,N] z
   (λi h=>G' h z TI TO .none/\pb h TI (.ref L) (.ref N)/\(∃a b,pb h TO a b)/\h.IsListIter L l1 i/\h.IsListIter N l i) where
 mem:=by simp
 obj:=λi h st b Z=>by
  obtain⟨R,Y,⟨a,c,U⟩,⟨o1,e1,c1,d1⟩,⟨o2,e2,c2,d2⟩⟩:=st;simp only[eu,ee,or_false]at Z;rcases Z with rfl|rfl|rfl|rfl|rfl
  ·exact⟨_,R,λv z=>by cases z⟩
  ·exact⟨_,Y,λv z=>by cases z⟩
  ·exact⟨_,U,λv z=>by cases z⟩
  ·exact⟨_,e1,λv z=>by rw[d1]at z;cases z⟩
  ·exact⟨_,e2,λv z=>by rw[d2]at z;cases z⟩
 keep:=λi h h' st k=>by obtain⟨R,Y,⟨a,c,U⟩,J,G⟩:=st;exact⟨k z (by simp) _ R,k TI (by simp) _ Y,⟨a,c,k TO (by simp) _ U⟩,J.at λo e=>k L (by simp) o e,G.at λo e=>k N (by simp) o e⟩
 item:=by
  intro X j hw hK hc i pins s σ H E I hf st hg;subst j hw hK;obtain⟨R,Y,⟨a,c,U⟩,J,G⟩:=st;obtain⟨r,q,t,n,ga,gb⟩:=hg;obtain⟨A,O,p1,_⟩:=I.list (.inl t);obtain⟨B,Q,f,_⟩:=I.list (.inl n);obtain⟨u1,b1,m⟩:=O.get (NR ga);obtain⟨d,b4,c3⟩:=Q.get (NR gb);refine wpAny_pyNext_zip_item D R Y U J G p1.isList f.isList (x:=u1) (y:=d) (by simpa using b1) (by simpa using b4) λh' a1 a2 a3 a4 a5 a6 p=>?_;have b3:H s.heap.objs.size=none:=I.hok.fresh (NQ _);have lt:∀{c o},s.heap.get? c=ar o->s.heap.objs.size≠c:=λe=>PL (NV e);refine⟨_,rfl,Rb a1 λS b2 T=>?_⟩;have u:pb S TI (.ref L) (.ref N):=T.extBut _ _ D.TIz (p _ _ D.TIz D.TITO D.TIi1 D.TIi2 Y);have kk:∀b o,b∉[z,TI,TO,L,N]->s.heap.get? b=ar o->S.get? b=ar o:=λb o Z e=>by simp only[eu,ee,or_false,not_or]at Z;exact T.extBut _ _ Z.1 (p b o Z.1 Z.2.2.1 Z.2.2.2.1 Z.2.2.2.2 e)
  have F:pb S s.heap.objs.size u1 d:=T.extBut _ _ (lt R) a5;have I2:L2.Inv X pins σ (upd H s.heap.objs.size (.tup [r[i],q[i]])) {s with heap:=S,toks:=s.toks}:=vM (o:=.tup [r[i],q[i]]) I hf kk (NQ _) ⟨⟨by show 2<=sizeLine;decide,_,F,rfl⟩,[u1,d],.cons m (.cons c3 .nil),_,F,rfl,_,rfl⟩;refine⟨.ref s.heap.objs.size,_,I2,rfl,
   ⟨r,q,_,_,_,t,n,b3,NR ga,NR gb,rfl,rfl⟩,⟨b2,u,⟨_,_,T.extBut _ _ D.TOz a2⟩,a3.at λo e=>T.extBut _ _ D.i1z e,a4.at λo e=>T.extBut _ _ D.i2z e⟩,λb Z=>?_⟩
  obtain⟨ob,ho,_⟩:∃ob,s.heap.get? b=ar ob/\True:=by
   simp only[eu,ee,or_false]at Z;rcases Z with rfl|rfl|rfl|rfl|rfl
   ·exact⟨_,R,trivial⟩
   ·exact⟨_,Y,trivial⟩
   ·exact⟨_,U,trivial⟩
   ·obtain⟨o,e,_⟩:=J;exact⟨_,e,trivial⟩
   ·obtain⟨o,e,_⟩:=G;exact⟨_,e,trivial⟩
  rw[aO (Ob (NV ho))];exact(hf b Z).1
 done:=by intro X j hw hK hc i pins s σ H E I hf st hg;subst j hw hK;obtain⟨R,Y,⟨a,c,U⟩,J,G⟩:=st;obtain⟨r,q,t,n,gs⟩:=hg;obtain⟨A,O,p1,_⟩:=I.list (.inl t);obtain⟨B,Q,f,_⟩:=I.list (.inl n);have d3:=O.length;have e8:=Q.length;refine wpAny_pyNext_zip_end (I.ok.hd hc) D R Y U J G p1.isList f.isList (gs.imp (λg=>by simp;omega) λg=>by simp;omega) λh' p=>⟨rfl,vL (t':=s.toks) I hf λb o Z e=>?_⟩;simp only[eu,ee,or_false,not_or]at Z;exact p b o Z.1 Z.2.2.1 Z.2.2.2.1 Z.2.2.2.2 e
 self:=λ_ _ _ _ _ st h=>QJ st.1 h
theorem GC{X:Cx}{J:List Expr}{x1}{tp p pos:Pos}{es:List Expr}{e:Expr}{z:TA}(y:Gl X "zip")(v:X.mg "zip"=none)(w:PA X (e::es) z)
  (x:dt (e::es) X.env=(c_,hD e X.env)::dt es X.env:=by rfl) (C:(oo pos (dt es X.env)).any (·.1)=false:=by rfl):
  PI X (.Tuple J x1 tp) (.Call (.Name "zip" p) (e::es) [] pos) (λσ H R=>z σ H λxs Z=>(∃a b va vb,xs=[.ref a,.ref b]/\Rd Z a (.lst va)/\Rd Z b (.lst vb)/\R (GA a b) Z)\/
   (∃a b va vb,xs=[.ref a,.ref b]/\Z a=ar (.tup va)/\Z b=ar (.tup vb)/\
   R ⟨λi H=>(CP va vb).go i H/\(H a=ar (.tup va)/\H b=ar (.tup vb)),(CP va vb).yld,λi H=>(CP va vb).stop i H/\(H a=ar (.tup va)/\H b=ar (.tup vb))⟩ Z)):=by
 intro pins s σ H R I h;refine Te (nJ I y v (show k_ "zip"=ar (.type "zip") by decide+kernel) (O6 (eM (w pos pins s σ H _ I h) λus s1 ⟨vs,Z,I1,r1,q1⟩=>?_) x C) (by decide) (by decide));have fresh:∀c∈[s1.heap.objs.size+4,s1.heap.objs.size+2,s1.heap.objs.size+3,s1.heap.objs.size,s1.heap.objs.size+1],s1.heap.objs.size<=c:=λc Y=>by simp only[eu,ee,or_false]at Y;omega
 rcases q1 with⟨a,b,va,vb,rfl,hA,hB,q⟩|⟨a,b,va,vb,rfl,hA,hB,q⟩
 ·obtain⟨u,B,rfl,E,Q⟩:=vals2 r1;cases (show u=ey a from E);cases (show B=ey b from Q);obtain⟨L,F,O,_⟩:=I1.list (.inl hA);obtain⟨P,G,N,_⟩:=I1.list (.inl hB);have a1:a<s1.heap.objs.size:=by obtain⟨_,e,_⟩:=O.isList;exact NV e
  have a2:b<s1.heap.objs.size:=by obtain⟨_,e,_⟩:=N.isList;exact NV e
  refine call_zip_2 O.isList N.isList λh' K S W T U _ A=>QJ K ?_;exact⟨s1.heap.objs.size+4,_,_,_,Z,rfl,I1.kept (t':=s1.toks) A,Cc (zipApart_new a1 a2),⟨K,S,⟨_,_,W⟩,T,U⟩,λc Y=>I1.fpOk (fresh c Y) (I1.hok.fresh (fresh c Y)),q⟩
 ·obtain⟨u,B,rfl,E,Q⟩:=vals2 r1;cases (show u=ey a from E);cases (show B=ey b from Q);obtain⟨L,F,O,_⟩:=I1.tuple (.of hA);obtain⟨P,G,N,_⟩:=I1.tuple (.of hB);have a1:a<s1.heap.objs.size:=by obtain⟨_,e,_⟩:=O;exact NV e
  have a2:b<s1.heap.objs.size:=by obtain⟨_,e,_⟩:=N;exact NV e
  refine B5 O N λh' K S W T U A=>QJ K ?_;exact⟨s1.heap.objs.size+4,_,_,_,Z,rfl,I1.kept (t':=s1.toks) A,DN (zipApart_new a1 a2) (λH=>H a=ar (.tup va)/\H b=ar (.tup vb)) (λ_=>.rfl),⟨K,S,⟨_,_,W⟩,T,U⟩,λc Y=>I1.fpOk (fresh c Y) (I1.hok.fresh (fresh c Y)),q⟩
theorem Rd.lst_inj(h:Rd H a (.lst xs))(h':Rd H a (.lst ys)):xs=ys:=by rcases h with h|⟨o,h⟩<;>rcases h' with h'|⟨o',h'⟩<;>(rw[h]at h';cases h'<;>rfl)
def zL:D->M (List D×Option (Nat×List D))
 | .lst k=>do let xs<-getL k;aC (xs,ar (k,xs))
 | .fz xs=>aC (xs,none)
 |_=>M.fail
def Jm:Option (Nat×List D)->Option (Nat×List D)->Chk
 |some (k,xs),ar (j,ys)=>.two k j xs ys
 |some (k,xs),none=>.two k k xs xs
 |none,ar (j,ys)=>.two j j ys ys
 |none,none=>.none
def xF:List D->M Iter
 |[.tup xs,.tup ys]=>aC ⟨(xs.zip ys).map λp=>.tup [p.1,p.2],.none⟩
 |[a,b]=>do let x<-zL a;let y<-zL b;aC ⟨(x.1.zip y.1).map λp=>.tup [p.1,p.2],Jm x.2 y.2⟩
 |_=>M.fail
structure ZOk(K:cC)(x:List D×Option (Nat×List D))(a:b')(ι:List b')(H:Hp):Prop where
 ok:∀ ι2 H2 S2,ExtN ι H ι2 H2->Rep K ι2 H2 S2->(∀k xs,x.2=ar (k,xs)->S2[k]? =ar xs)->∃va,Rd H2 a (.lst va)/\RelDs K ι2 H2 x.1 va
theorem DW{K:cC}{E:XD}{Y:List b'}{S:aK}{H:Hp}{d:D}{v:V}{α:Type}{f:List D×Option (Nat×List D)->M α}{Q:α->List b'->aK->Hp->Prop}(Z:Rep K Y H S)(r:RelD K Y H d v)(c:cont K E (zL d>>=f) Y S H Q):
  ∃a x U,v= .ref a/\Rd H a (.lst U)/\ZOk K x a Y H/\cont K E (f x) Y S H Q:=by
 cases d with
 | lst k=>
  obtain⟨a,rfl,X⟩:=r.lst_inv;have I:cont K E (getL k>>=λxs=>aC (xs,ar (k,xs))>>=f) Y S H Q:=by rw[<-fg];exact c
  obtain⟨xs,vs,G,J,R,P⟩:=bI I Z X;rw[aq]at P;refine⟨a,(xs,ar (k,xs)),vs,rfl,.inl J,⟨λT O S2 e rep2 ok=>?_⟩,P⟩;obtain⟨U,L,N⟩:=rep2.get k a xs (e.at X) (ok k xs rfl);exact⟨U,.inl L,N⟩
 |fz xs=>
  obtain⟨a,o,vs,rfl,X,R⟩:=r.fz_inv;refine⟨a,(xs,none),vs,rfl,.inr ⟨o,X⟩,⟨λT O S2 e rep2 ok=>?_⟩,ao (av c) .refl Z⟩;exact⟨vs,.inr ⟨o,(e.oth _ _ X (Z.notIn X (by intro _ z;cases z)) (by intro _ z;cases z) (by intro _ z;cases z)).1⟩,R.laterN Z e⟩
 |_=>exact(au (av c)).elim
theorem GD(h:Iter.okS ⟨items,Jm x y⟩ S):(∀k xs,x=ar (k,xs)->S[k]? =ar xs)/\∀k xs,y=ar (k,xs)->S[k]? =ar xs:=by
 match x,y,h with
 |some (k,xs),ar (j,ys),h=>exact⟨λ_ _ e=>(by cases e;exact h.1),λ_ _ e=>(by cases e;exact h.2)⟩
 |some (k,xs),none,h=>exact⟨λ_ _ e=>(by cases e;exact h.1),λ_ _ e=>(by cases e)⟩
 |none,ar (j,ys),h=>exact⟨λ_ _ e=>(by cases e),λ_ _ e=>(by cases e;exact h.1)⟩
 |none,none,h=>exact⟨λ_ _ e=>(by cases e),λ_ _ e=>(by cases e)⟩
theorem xG{K:cC}{Q:List b'}{H:Hp}{a b:b'}{x y:List D×Option (Nat×List D)}(E:ZOk K x a Q H)(G:ZOk K y b Q H):
  j8 K ⟨(x.1.zip y.1).map λp=>.tup [p.1,p.2],Jm x.2 y.2⟩ (GA a b) Q H:=by
 intro Z S S2 e rep2 ok i;obtain⟨P,O⟩:=GD ok;obtain⟨N,X,T⟩:=E.ok Z S S2 e rep2 P;obtain⟨L,Y,U⟩:=G.ok Z S S2 e rep2 O;have w:=T.length;have A:=U.length;refine⟨λd hd=>?_,λhlen=>?_⟩
 ·obtain⟨q,r,J,I,rfl⟩:=zip_get hd;have o:=(NX.mp J).1;have t:=(NX.mp I).1;refine⟨⟨N,L,X,Y,by omega,by omega⟩,?_⟩;rintro v H3 ⟨va',vb',p,u,F,gA,gB,hp,g1,g2,rfl,rfl⟩;cases Rd.lst_inj X gA;cases Rd.lst_inj Y gB;obtain⟨v1,e1,B⟩:=T.get' J;obtain⟨v2,e2,C⟩:=U.get' I;obtain rfl:v1=u:=Oj (e1.symm.trans g1);obtain rfl:v2=F:=Oj (e2.symm.trans g2);have R:Ext Z S Z (upd S p (.tup [v1,v2])):=iI hp;exact⟨R,kL rep2 hp,.tup bf (.cons (B.later rep2 R) (.cons (C.later rep2 R) .nil))⟩
 ·have s:min x.1.length y.1.length<=i:=by simpa using hlen
  refine⟨N,L,X,Y,?_⟩;rcases Nat.le_total x.1.length y.1.length with z|z
  ·exact .inl (by omega)
  ·exact .inr (by omega)
theorem GE{X:Cx}{x1}(l:X.mg "zip"=none)(t:SE X E a m)(z:SE X E b n)(u:Gl X "zip":=by rfl)
  (hs:dt [a,b] X.env=[(c_,hD a X.env),(c_,hD b X.env)]:=by rfl) (W:dt [b] X.env=[(c_,hD b X.env)]:=by rfl):
  SI X E (.Tuple elts x1 tp) (.Call (.Name "zip" p) [a,b] [] pos) (λρ=>do let ds<-(do let x<-m ρ;let xs<-(do let y<-n ρ;let ys<-aC [];aC (y::ys));aC (x::xs));xF ds):=by
 intro pins s σ H R I h;have L:PI X (.Tuple elts x1 tp) (.Call (.Name "zip" p) [a,b] [] pos) (λσ H R=>MI X.K E (ae m (ae n aj)) σ H λxs U=>(∃a b Z Y,xs=[.ref a,.ref b]/\Rd U a (.lst Z)/\Rd U b (.lst Y)/\R (GA a b) U)\/
   (∃a b Z Y,xs=[.ref a,.ref b]/\U a=ar (.tup Z)/\U b=ar (.tup Y)/\
   R ⟨λi H=>(CP Z Y).go i H/\(H a=ar (.tup Z)/\H b=ar (.tup Y)),(CP Z Y).yld,λi H=>(CP Z Y).stop i H/\(H a=ar (.tup Z)/\H b=ar (.tup Y))⟩ U)):=
  GC u l (af t (af z ah (by rw[W];rfl)) (by rw[hs,W])) (by rw[hs,W]) (by rw[W];rfl)
 refine L pins s σ H R I ?_;obtain⟨A,S,ρ,rep,re,c⟩:=h;refine⟨A,S,ρ,rep,re,az (av c) λds w S1 U e1 rep1 c1 vs r=>?_⟩;unfold xF at c1;split at c1
 ·next xs ys=>
  obtain⟨v1,ws,rfl,C,G⟩:=r.cons_inv;obtain⟨v2,N,rfl,O,P⟩:=G.cons_inv;cases P.nil_inv;obtain⟨J,Z,rfl,T,B⟩:=C.tup_inv;obtain⟨F,Y,rfl,Q,k⟩:=O.tup_inv;exact .inr ⟨J,F,Z,Y,rfl,T,Q,ao c1 .refl rep1 _ (zH rep1 T Q B k)⟩
 ·next a b _=>
  obtain⟨v1,ws,rfl,C,G⟩:=r.cons_inv;obtain⟨v2,N,rfl,O,P⟩:=G.cons_inv;cases P.nil_inv;obtain⟨J,x,Z,rfl,T,q,j⟩:=DW rep1 C c1;obtain⟨F,y,Y,rfl,Q,v,o⟩:=DW rep1 O j;exact .inl ⟨J,F,Z,Y,rfl,T,Q,ao o .refl rep1 _ (xG q v)⟩
 ·exact(au c1).elim
abbrev DX(m n:TM):aE->M Iter:=λρ=>do let ds<-ae m (ae n aj) ρ;xF ds
end S4
namespace S3
open PySem PySem.Spec PyProof.Rows L2 S4
def pS(f:Expr->Option D):List Expr->Option (List D)
 |[]=>ar []
 |e::es=>match f e,pS f es with
  |some d,ar ds=>ar (d::ds)
  |_,_=>none
def litE:Nat->Expr->Option D
 |_,.Constant .none _ _=>ar .non
 |_,.Constant (.bool b) _ _=>ar (.bl b)
 |_,.Constant (.int i) _ _=>ar (.int i)
 |_,.Constant (.str x) _ _=>ar (.str x)
 |_,.UnaryOp .USub (.Constant (.int i) _ _) _=>ar (.int (-i))
 |n+1,.Tuple es _ _=>match pS (litE n) es with
  |some ds=>if ds.length<=100 then ar (.tup ds)else none
  |none=>none
 |_,_=>none
section
variable {X:Cx}{E:XD}
theorem SE.mono{m Z:TM}(h:SE X E e m)(k:∀ ρ S r,Z ρ S=ar r->m ρ S=ar r):SE X E e Z:=PE.imp h λσ H Q q=>by obtain⟨W,S,ρ,rep,re,r,Y,e,c⟩:=q;exact⟨W,S,ρ,rep,re,r,Y,k ρ S _ e,c⟩
theorem DY(h:litE n e=ar d)(es:List Expr)(env:Env):dt (e::es) env=(c_,hD e env)::dt es env:=by
 cases e with
 |Constant c j p=>exact aQ
 |UnaryOp o a p=>exact zK
 |Tuple l k p=>exact gZ
 |_=>cases n<;>cases h
theorem AQ(Z:∀e d,litE n e=ar d->SE X E e (mK d)):∀{es:List Expr} {ds:List D},pS (litE n) es=ar ds->SA X E es (λ_=>aC ds)
 |[],ds,h=>by cases h;exact ah
 | e::es,ds,h=>by
  unfold pS at h;cases q:litE n e with
  |none=>rw[q]at h;cases h
  | some d=>
   rw[q]at h;cases q2:pS (litE n) es with
   |none=>rw[q2]at h;cases h
   |some ds'=>
    rw[q2]at h;cases h;exact af (Z e d q) (AQ Z q2) (DY q _ _)
theorem Jn:∀(n:Nat) (e:Expr) (d:D),litE n e=ar d->SE X E e (mK d):=by
 intro n
 induction n with
 |zero=>
  intro e d h;unfold litE at h;split at h
  ·cases h;exact kM
  ·cases h;exact eF
  ·cases h;exact aA
  ·cases h;exact pL
  ·cases h;exact zM
  ·next h'=>exact absurd h' (by omega)
  ·cases h
 | succ n ih=>
  intro e d h;unfold litE at h;split at h
  ·cases h;exact kM
  ·cases h;exact eF
  ·cases h;exact aA
  ·cases h;exact pL
  ·cases h;exact zM
  ·next m es k p hm=>
   cases hm;cases q:pS (litE n) es with
   |none=>rw[q]at h;cases h
   | some ds=>
    rw[q]at h;simp only at h;split at h
    ·next hl=>
     cases h;refine(cN (AQ ih q)).mono λρ S r Z=>?_;have e:(do let ds'<-(aC ds:M (List D));bw ds')=(aC (.tup ds):M D):=by show bw ds=_;unfold bw;rw[if_pos (by unfold lim;omega)]
     rw[e];exact Z
    ·cases h
  ·cases h
theorem Jo(n:Nat)(h:litE n e=ar d):SE X E e (mK d):=Jn n e d h
end
def bg(m:TM)(ms:FF):FF:=ae m ms
section
variable {X:Cx}{E:XD}
theorem cR(Y:SE X E e m)(Z:SA X E es ms)(hs:dt (e::es) X.env=(c_,hD e X.env)::dt es X.env):SA X E (e::es) (bg m ms):=af Y Z hs
theorem oP{l p t n}:nC (.List l p) t n env=aC false:=rfl
theorem xH{l k p t n}:nC (.Tuple l k p) t n env=aC false:=rfl
theorem oQ{a o b p t n}:nC (.BinOp a o b p) t n env=aC false:=rfl
theorem cM{f l k p t n}:nC (.Call f l k p) t n env=aC false:=rfl
theorem gk{a b p t n}:nC (.Subscript a b p) t n env=aC false:=rfl
theorem DZ{a b c p t n}:nC (.IfExp a b c p) t n env=aC false:=rfl
end
end S3
namespace S7
open PySem PySem.Spec PyProof.Rows L2 S3
abbrev yQ(m:TM):TM:=λρ=>oM (m ρ)
abbrev Jp(m:cL):cL:=λρ=>oM (m ρ)
abbrev vR(x:Str)(ms:aE->M (List D)):cL:=λρ=>do let ds<-ms ρ;if ds.length<=lim then M.raise (.exc x [])else M.fail
end S7
namespace S3
open PySem PySem.Spec PyProof.Rows L2
mutual
def gF(n:Nat):D->Bool
 | .lst k=>decide (k<n)
 | .tup ds=>df n ds
 | .ro ds=>df n ds
 | .fz ds=>df n ds
 | .fn _ _ _ ds _=>df n ds
 | .exc _ ds=>df n ds
 | .non=>b_
 | .bl _=>b_
 | .int _=>b_
 | .str _=>b_
 | .emp=>b_
def df(n:Nat):List D->Bool
 |[]=>b_
 |d::ds=>gF n d && df n ds
end
mutual
def m6(n:Nat)(g:Nat->Option (List D)):D->Option D
 | .lst k=>if k<n then ar (.lst k)else (g k).map .fz
 | .tup ds=>(lN n g ds).map .tup
 | .ro ds=>(lN n g ds).map .ro
 | .fz ds=>(lN n g ds).map .fz
 | .fn a c q ds vs=>(lN n g ds).map λes=>.fn a c q es vs
 | .exc x ds=>(lN n g ds).map λes=>.exc x es
 | .non=>ar .non
 | .bl b=>ar (.bl b)
 | .int i=>ar (.int i)
 | .str x=>ar (.str x)
 | .emp=>ar .emp
def lN(n:Nat)(g:Nat->Option (List D)):List D->Option (List D)
 |[]=>ar []
 |d::ds=>match m6 n g d,lN n g ds with
  |some u,ar us=>ar (u::us)
  |_,_=>none
end
def FI(S:aK)(n:Nat):Nat->Nat->Option (List D)
 |0,_=>none
 |f+1,k=>(S[k]?).bind λxs=>lN n (FI S n f) xs
def qF(S S':aK):Prop:=∀k xs,k<S.length->S'[k]? =ar xs->S[k]? =ar xs\/df S.length xs=b_
open Classical in
def iF(m:M D):M D:=λS=>match m S with
 | some (.ok d,S')=>if S'.length<=S.length then ar (.ok d,S')else
   if qF S S' then (match m6 S.length (FI S' S.length 60) d with
    |some u=>ar (.ok u,S'.take S.length)
    |none=>none)else none
 |r=>r
abbrev aL(m:TM):TM:=λρ=>iF (m ρ)
section
variable {K:cC}{ι ι':List b'}{H H':Hp}{S S':aK}
mutual
theorem RelD.cl:∀{d:D} {v:V},RelD K ι H d v->gF ι.length d=b_
 |_,_,.non=>rfl
 |_,_,.bl b=>rfl
 |_,_,.int i=>rfl
 |_,_,.str x=>rfl
 |_,_,.tup h hs=>by unfold gF;exact RelDs.cl hs
 |_,_,.lst h=>by unfold gF;exact N1 (NX.mp h).1
 |_,_,.ro h hs=>by unfold gF;exact RelDs.cl hs
 |_,_,.emp h=>rfl
 |_,_,.fn h hs=>by unfold gF;exact RelDs.cl hs
 |_,_,.exc n h=>rfl
 |_,_,.excF n h h2 hn hs=>by unfold gF;exact RelDs.cl hs
 |_,_,.fz h hs=>by unfold gF;exact RelDs.cl hs
theorem RelDs.cl:∀{ds:List D} {vs:List V},RelDs K ι H ds vs->df ι.length ds=b_
 |_,_,.nil=>rfl
 |_,_,.cons h hs=>by unfold df;rw[RelD.cl h,RelDs.cl hs];rfl
end
def qG(P:List b')(os:b'->Obj)(H:Hp):Hp:=λb=>match H b with
 |some (.lst vs)=>if b∈P then ar (.frz (os b) (.lst vs))else ar (.lst vs)
 |x=>x
theorem D0{P:List b'}{os:b'->Obj}{b:b'}(h:H b=none):qG P os H b=none:=by unfold qG;rw[h]
theorem cu{P:List b'}{os:b'->Obj}{b:b'}{o:HO}(h:H b=ar o)(Z:∀vs,o≠ .lst vs):qG P os H b=ar o:=by
 unfold qG;rw[h];cases o with
 |lst vs=>exact absurd rfl (Z vs)
 |_=>rfl
theorem AR{P:List b'}{os:b'->Obj}{b:b'}(h:b∉P):qG P os H b=H b:=by
 unfold qG;split
 ·next q=>rw[if_neg h,q]
 ·rfl
theorem Jq{os:b'->Obj}(h:b∈P)(e:H b=ar (.lst vs)):qG P os H b=ar (.frz (os b) (.lst vs)):=by unfold qG;rw[e];exact if_pos h
theorem xI(Y:ι.Nodup)(h:ι[k]? =ar a):a∈ι.drop n↔n<=k:=by
 constructor
 ·intro hm;obtain⟨j,Z⟩:=List.mem_iff_getElem?.mp hm;rw[List.getElem?_drop]at Z;have:=rS Y h Z;omega
 ·intro X;refine List.mem_iff_getElem?.mpr ⟨k - n,?_⟩;rw[List.getElem?_drop,show n+(k - n)=k by omega];exact h
mutual
theorem RelD.down{n:Nat}{os:b'->Obj}:∀{d:D} {v:V},RelD K ι H d v->gF n d=b_->RelD K (ι.take n) (qG (ι.drop n) os H) d v
 |_,_,.non,_=>.non
 |_,_,.bl b,_=>.bl b
 |_,_,.int i,_=>.int i
 |_,_,.str x,_=>.str x
 |_,_,.tup h hs,c=>.tup (cu h (by intro _ z;cases z)) (RelDs.down hs (by unfold gF at c;exact c))
 |_,_,.lst h,c=>.lst (by unfold gF at c;rw[P2,if_pos (OE c)];exact h)
 |_,_,.ro h hs,c=>.ro (h.imp (λ⟨o,h⟩=>⟨o,cu h (by intro _ z;cases z)⟩) λz=>z) (RelDs.down hs (by unfold gF at c;exact c))
 |_,_,.emp h,_=>.emp (cu h (by intro _ z;cases z))
 |_,_,.fn h hs,c=>.fn (cu h (by intro _ z;cases z)) (RelDs.down hs (by unfold gF at c;exact c))
 |_,_,.exc n h,_=>.exc n (cu h (by intro _ z;cases z))
 |_,_,.excF n h h2 hn hs,c=>.excF n (cu h (by intro _ z;cases z)) (cu h2 (by intro _ z;cases z)) hn (RelDs.down hs (by unfold gF at c;exact c))
 |_,_,.fz h hs,c=>.fz (cu h (by intro _ z;cases z)) (RelDs.down hs (by unfold gF at c;exact c))
theorem RelDs.down{n:Nat}{os:b'->Obj}:∀{ds:List D} {vs:List V},RelDs K ι H ds vs->df n ds=b_->RelDs K (ι.take n) (qG (ι.drop n) os H) ds vs
 |_,_,.nil,_=>.nil
 |_,_,.cons h hs,c=>by
  unfold df at c;rw[OA]at c;exact .cons (RelD.down h c.1) (RelDs.down hs c.2)
end
theorem kZ{α Z:Type}{f:α->Z}{o:Option α}{b:Z}(h:o.map f=ar b):∃a,o=ar a/\f a=b:=by
 cases o with
 |none=>cases h
 |some a=>exact⟨a,rfl,Oj h⟩
theorem D1(h:lN n g (d::ds)=ar us):∃u us',us=u::us'/\m6 n g d=ar u/\lN n g ds=ar us':=by
 unfold lN at h;split at h
 ·next u us' e1 e2=>cases h;exact⟨u,us',rfl,e1,e2⟩
 ·cases h
mutual
theorem zR{n:Nat}{os:b'->Obj}{g:Nat->Option (List D)}(Y:∀k us a,n<=k->g k=ar us->ι[k]? =ar a->∃vs,H a=ar (.lst vs)/\RelDs K (ι.take n) (qG (ι.drop n) os H) us vs)(Z:ι.Nodup):
  ∀{d:D} {v:V},RelD K ι H d v->∀{u:D},m6 n g d=ar u->RelD K (ι.take n) (qG (ι.drop n) os H) u v
 |_,_,.non,u,e=>by unfold m6 at e;cases e;exact .non
 |_,_,.bl b,u,e=>by unfold m6 at e;cases e;exact .bl b
 |_,_,.int i,u,e=>by unfold m6 at e;cases e;exact .int i
 |_,_,.str x,u,e=>by unfold m6 at e;cases e;exact .str x
 |_,_,.tup h hs,u,e=>by
  unfold m6 at e;obtain⟨es,e1,rfl⟩:=kZ e;exact .tup (cu h (by intro _ z;cases z)) (k9 Y Z hs e1)
 | _,_,@RelD.lst _ _ _ a k h,u,e=>by
  unfold m6 at e;by_cases hk:k<n
  ·rw[if_pos hk]at e;cases e;exact .lst (by rw[P2,if_pos hk];exact h)
  ·rw[if_neg hk]at e;obtain⟨us,e1,rfl⟩:=kZ e;obtain⟨vs,U,X⟩:=Y k us a (by omega) e1 h;exact .fz (Jq ((xI Z h).mpr (by omega)) U) X
 |_,_,.ro h hs,u,e=>by
  unfold m6 at e;obtain⟨es,e1,rfl⟩:=kZ e;exact .ro (h.imp (λ⟨o,h⟩=>⟨o,cu h (by intro _ z;cases z)⟩) λz=>z) (k9 Y Z hs e1)
 |_,_,.emp h,u,e=>by unfold m6 at e;cases e;exact .emp (cu h (by intro _ z;cases z))
 |_,_,.fn h hs,u,e=>by
  unfold m6 at e;obtain⟨es,e1,rfl⟩:=kZ e;exact .fn (cu h (by intro _ z;cases z)) (k9 Y Z hs e1)
 |_,_,.exc x h,u,e=>by
  unfold m6 at e;obtain⟨es,e1,rfl⟩:=kZ e;unfold lN at e1;cases e1;exact .exc x (cu h (by intro _ z;cases z))
 |_,_,.excF x h X hn hs,u,e=>by
  unfold m6 at e;obtain⟨es,e1,rfl⟩:=kZ e;exact .excF x (cu h (by intro _ z;cases z)) (cu X (by intro _ z;cases z)) hn (k9 Y Z hs e1)
 |_,_,.fz h hs,u,e=>by
  unfold m6 at e;obtain⟨es,e1,rfl⟩:=kZ e;exact .fz (cu h (by intro _ z;cases z)) (k9 Y Z hs e1)
theorem k9{n:Nat}{os:b'->Obj}{g:Nat->Option (List D)}(Z:∀k us a,n<=k->g k=ar us->ι[k]? =ar a->∃vs,H a=ar (.lst vs)/\RelDs K (ι.take n) (qG (ι.drop n) os H) us vs)(Y:ι.Nodup):
  ∀{ds:List D} {vs:List V},RelDs K ι H ds vs->∀{us:List D},lN n g ds=ar us->RelDs K (ι.take n) (qG (ι.drop n) os H) us vs
 |_,_,.nil,us,e=>by unfold lN at e;cases e;exact .nil
 |_,_,.cons h hs,us,e=>by
  obtain⟨u,X,rfl,e1,e2⟩:=D1 e;exact .cons (zR Z Y h e1) (k9 Z Y hs e2)
end
theorem AS(Z:Rep K ι H S){n:Nat}{os:b'->Obj}:∀f k us a,n<=k->FI S n f k=ar us->ι[k]? =ar a->∃vs,H a=ar (.lst vs)/\RelDs K (ι.take n) (qG (ι.drop n) os H) us vs:=by
 intro f
 induction f with
 |zero=>intro k us a _ e;cases e
 | succ f ih=>
  intro k us a T e X;unfold FI at e;cases z:S[k]? with
  |none=>rw[z]at e;cases e
  |some xs=>
   rw[z]at e;obtain⟨vs,Y,U⟩:=Z.get k a xs X z;exact⟨vs,Y,k9 ih Z.nd U e⟩
theorem xJ(Y:Rep K ι H S)(x:Ext ι H ι' H')(Z:Rep K ι' H' S')(P:qF S S')(os:b'->Obj):
  Ext ι H ι (qG (ι'.drop ι.length) os H')/\Rep K ι (qG (ι'.drop ι.length) os H') (S'.take ι.length):=by
 obtain⟨more,rfl⟩:=id x.ids;have O:(ι++more).take ι.length=ι:=by simp
 refine⟨⟨⟨[],by simp⟩,λa o h n t=>?_⟩,⟨Y.nd,?_,λk a xs e1 e2=>?_,Z.tab.mono λa o h n=>cu h n⟩⟩
 ·obtain⟨U,T⟩:=x.oth a o h n t;rw[AR (λz=>T (Pi z))];exact⟨U,n⟩
 ·have:=Z.len;rw[OO, <-this,NP];omega
 ·have R:k<ι.length:=(NX.mp e1).1;rw[P2,if_pos R]at e2;have X:(ι++more)[k]? =ar a:=by rw[Os R];exact e1
  obtain⟨vs,U,T⟩:=Z.get k a xs X e2;refine⟨vs,?_,?_⟩
  ·rw[AR (λz=>by have:=(xI Z.nd X).mp z;omega)];exact U
  ·have Q:df ι.length xs=true:=by
    rcases P k xs (by rw[<-Y.len];exact R) e2 with z|z
    ·obtain⟨_,_,N⟩:=Y.get k a xs e1 z;exact N.cl
    ·rw[Y.len];exact z
   have:=RelDs.down (n:=ι.length) (os:=os) T Q;rw[O]at this;exact this
end
section
variable {X:Cx}{E:XD}{e:Expr}{m:TM}{pins:List (b'×Obj)}{σ:L2.St}{H:Hp}{s:cn}
theorem Inv.fz(I:L2.Inv X pins σ H s)(P:List b'):∃os,L2.Inv X pins σ (qG P os H) s:=by
 refine⟨λa=>(s.heap.get? a).getD {cls:=.none,data:=.fields #[]},?_⟩;have Z:Un X.fs [] H (qG P (λa=>(s.heap.get? a).getD {cls:=.none,data:=.fields #[]}) H) s.heap s.heap:=
  ⟨λb o q _ _ _=>q,λb o q _ _ _=>⟨o.slots,q⟩,λb o _ n _=>D0 n,λb o q _=>⟨o,q⟩,λb xs q=>cu q (by intro _ z;cases z),λb o u q=>cu q (by intro _ z;cases z),λb Y q=>⟨#[],by rw[cu q (by intro _ z;cases z)];simp⟩⟩
 refine I.un (t':=s.toks) Z λb o q=>?_;have st:∀u,H b=ar u->cy X.prog X.w (qG P (λa=>(s.heap.get? a).getD {cls:=.none,data:=.fields #[]}) H) s.heap b u:=λu Z=>
  (I.hok b u Z).stay (λ_ _ _ z=>z) (λc z=>cu z (by intro _ z;cases z)) λc xs z=>cu z (by intro _ z;cases z)
 unfold qG at q;split at q
 ·next vs hb=>
  split at q
  ·cases q;obtain⟨z,its,n,r,e⟩:=(show cy X.prog X.w H s.heap b (.lst vs)from I.hok b _ hb);exact⟨by dsimp only;rw[e];rfl,z,its,n,r,e⟩
  ·cases q;exact st _ hb
 ·exact st _ q
theorem ay(h:SE X E e m):SE X E e (aL m):=by
 intro pins s σ H Q I N;obtain⟨Y,S,ρ,rep,re,r,L,G,k⟩:=N;have Z:iF (m ρ) S=ar (r,L):=G;unfold iF at Z;cases q:m ρ S with
 |none=>rw[q]at Z;cases Z
 | some p=>
  obtain⟨C,R⟩:=p;rw[q]at Z;cases C with
  |ex x=>
   cases Z;exact h pins s σ H Q I ⟨Y,S,ρ,rep,re,.ex x,_,q,k⟩
  | ok d=>
   dsimp only at Z;by_cases hl:R.length<=S.length
   ·rw[if_pos hl]at Z;cases Z;exact h pins s σ H Q I ⟨Y,S,ρ,rep,re,.ok d,_,q,k⟩
   ·rw [if_neg hl]at Z;by_cases hk:qF S R
    ·rw [if_pos hk]at Z;cases z:m6 S.length (FI R S.length 60) d with
     |none=>rw[z]at Z;cases Z
     | some u=>
      rw[z]at Z;cases Z;refine eM (h pins s σ H (λv O=>∃P:List b',∀os,Q v (qG P os O)) I ⟨Y,S,ρ,rep,re,.ok d,R,q,λU O x W v J=>?_⟩) λuv s' ⟨v,O,I',J,P,hq⟩=>?_
      ·refine⟨U.drop Y.length,λos=>?_⟩;obtain⟨x2,rep2⟩:=xJ rep x W hk os;have T:Rep X.K Y (qG (U.drop Y.length) os O) (R.take S.length):=by rw[<-rep.len];exact rep2
       have N:U.take Y.length=Y:=by obtain⟨more,rfl⟩:=x.ids;simp
       have rel:RelD X.K Y (qG (U.drop Y.length) os O) u v:=by have:=zR (n:=Y.length) (os:=os) (λk us a=>by rw[rep.len];exact AS W 60 k us a) W.nd J (by rw[rep.len];exact z);rw[N]at this;exact this
       exact k Y _ x2 T v rel
      ·obtain⟨os,F⟩:=Inv.fz I' P;exact⟨v,_,F,J,hq os⟩
    ·rw[if_neg hk]at Z;cases Z
end
end S3
namespace S4
open PySem PySem.Spec PyProof.Rows L2 S3
theorem Jr{A:f_}(S:A.handled=none)(X:t≠it)(items:Array a_):
  Draws prog w A it [it,t] items.size (λi v=>items[i]? =ar v) (λi h=>h.IsTupleIter it t i/\h.IsTuple t items) where
 live:=λ_ _ st=>let ⟨⟨o,ho,_⟩,_⟩:=st;⟨o,ho⟩
 frame:=λ_ _ _ st U=>⟨st.1.at λo e=>U it (by simp) o e,let ⟨o,e,r⟩:=st.2;⟨o,U t (by simp) o e,r⟩⟩
 item:=λi s Q E W st R=>kX st.1 st.2 (x:=items[i]) (by simp[W]) λh' Y Z=>R _ h' s.toks (by simp[W]) ⟨Y,let ⟨o,e,r⟩:=st.2;⟨o,Z.extBut _ _ X e,r⟩⟩ Z
 done:=λs Q E st T=>m4 S st.1 st.2 (by simp) T
theorem Js{A:f_}(S:A.handled=none)(X:t≠it)(items:Array a_):
  Draws prog w A it [it,t] items.size (λi v=>items[i]? =ar v) (λi h=>h.IsListIter it t i/\h.IsList t items) where
 live:=λ_ _ st=>let ⟨⟨o,ho,_⟩,_⟩:=st;⟨o,ho⟩
 frame:=λ_ _ _ st U=>⟨st.1.at λo e=>U it (by simp) o e,let ⟨o,e,r⟩:=st.2;⟨o,U t (by simp) o e,r⟩⟩
 item:=λi s Q E W st R=>wpAny_nextOf_list_item st.1 st.2 (x:=items[i]) (by simp[W]) λh' Y Z=>R _ h' s.toks (by simp[W]) ⟨Y,let ⟨o,e,r⟩:=st.2;⟨o,Z.extBut _ _ X e,r⟩⟩ Z
 done:=λs Q E st T=>wpAny_nextOf_list_end S st.1 st.2 (by simp) T
def LW(rd:Hp->List V->Prop):It:=⟨λi H=>∃va,rd H va/\i<va.length,λi H x H'=>∃va p v,rd H va/\H p=none/\va[i]? =ar v/\x= .ref p/\H'=upd H p (.tup [.int i,v]),λi H=>∃va,rd H va/\va.length<=i⟩
theorem uF{P:dV}{w:d_}{K:cC}{J:List Expr}{x1}{tp:Pos}{e it t:b'}(S:e≠it)(r:t≠e)(b5:t≠it){rd:Hp->List V->Prop}{sti:Nat->eg->Prop}{sq:Array a_->eg->Prop}
  (so:∀i h,sti i h->∃o,h.get? it=ar o/\∀v,o.data≠ .cell v) (sk:∀i h h',sti i h->(∀o,h.get? it=ar o->h'.get? it=ar o)->sti i h')
  (G:∀(X:Cx) pins s σ H U,X.prog=P->X.w=w->X.K=K->L2.Inv X pins σ H s->rd H U->∃its:List a_,bJ U its/\sq its.toArray s.heap)
  (dr:∀(A:f_) (items:Array a_),A.handled=none->Draws P w A it [it,t] items.size (λi v=>items[i]? =ar v) (λi h=>sti i h/\sq items h))
  (dn:∀(A:f_) (items:Array a_) (i:Nat) (s:cn) (Q:a_->cn->Prop) (E:a_->cn->Prop),A.handled=none->sti i s.heap->sq items s.heap->items[i]? =none->
   (∀h' e,Heap.ExtBut it s.heap h'->(∃o,h'.get? e=ar o/\o.cls= .type "StopIteration")->E (.ref e) {s with heap:=h'})->ed (er P w) A (gj (.ref it)) Q E s):
  Turn P w K (.Tuple J x1 tp) (LW rd) [e,it] e (λi h=>(∃old,IsEnum h e it i old)/\sti i h) where
 mem:=by simp
 obj:=λi h st b Z=>by
  obtain⟨⟨old,he⟩,hs⟩:=st;simp only[eu,ee,or_false]at Z;rcases Z with rfl|rfl
  ·exact⟨_,he,λv z=>by cases z⟩
  ·exact so i h hs
 keep:=λi h h' st k=>by obtain⟨⟨old,he⟩,hs⟩:=st;exact⟨⟨old,k e (by simp) _ he⟩,sk i h h' hs λo q=>k it (by simp) o q⟩
 item:=by
  intro X l hw hK p i pins s σ H E I hf st j;subst l hw hK;obtain⟨⟨old,he⟩,hs⟩:=st;obtain⟨U,C,ga⟩:=j;obtain⟨its,u,f⟩:=G X pins s σ H U rfl rfl rfl I C;have hl:=u.length;obtain⟨u1,g,m⟩:=u.get (NR ga);have D:=dr X.A.in1 its.toArray (by show X.A.handled=none;exact I.ok.hd p);refine wpAny_pyNext_enum_itemD D he ⟨hs,f⟩ (by rw[N5];omega) S (by simp[S,lx r]) λx h' y hx a3 a B hz hk=>?_;have R:x=u1:=by
   have:its[i]? =ar x:=by simpa using hx
   rw[g]at this;exact(Oj this).symm
  subst R;have d:H s.heap.objs.size=none:=I.hok.fresh (NQ _);have lt:∀{c o},s.heap.get? c=ar o->s.heap.objs.size≠c:=λe=>PL (NV e);obtain⟨oi,a0,_⟩:=so i _ hs;refine⟨_,rfl,wpAny_letOwnedTupleGo_enum a3 λO N Y=>?_⟩;have kk:∀b o,b∉[e,it]->s.heap.get? b=ar o->O.get? b=ar o:=λb o Z q=>by simp only[eu,ee,or_false,not_or]at Z;exact Y.extBut _ _ Z.1 (hk b o Z.1 Z.2 q)
  have L:O.get? s.heap.objs.size=ar {cls:=.type "tuple",data:=.seq #[.int i y,x]}:=Y.extBut _ _ (lt he) B;have I2:L2.Inv X pins σ (upd H s.heap.objs.size (.tup [.int i,U[i]])) {s with heap:=O,toks:=y+1}:=vM (o:=.tup [.int i,U[i]]) I hf kk (NQ _) ⟨⟨by show 2<=sizeLine;decide,_,L,rfl⟩,[.int i y,x],.cons ⟨y,rfl⟩ (.cons m .nil),_,L,rfl,_,rfl⟩;refine⟨.ref s.heap.objs.size,_,I2,rfl,⟨U,_,_,C,d,NR ga,rfl,rfl⟩,⟨⟨_,N⟩,sk _ _ _ a.1 λo q=>(Y.2 it (lx S)).trans q⟩,λb Z=>?_⟩;obtain⟨ob,ho,_⟩:∃ob,s.heap.get? b=ar ob/\True:=by
   simp only[eu,ee,or_false]at Z;rcases Z with rfl|rfl
   ·exact⟨_,he,trivial⟩
   ·exact⟨_,a0,trivial⟩
  rw[aO (Ob (NV ho))];exact(hf b Z).1
 done:=by
  intro X l hw hK p i pins s σ H E I hf st j;subst l hw hK;obtain⟨⟨old,he⟩,hs⟩:=st;obtain⟨U,C,ga⟩:=j;obtain⟨its,u,f⟩:=G X pins s σ H U rfl rfl rfl I C;have hl:=u.length;have B:s.TypeIs (.ref e) "enumerate":=⟨_,he,rfl⟩;unfold RM;refine NN (RL (wpAny_callSpecial?_slot (name:=g_ "__next__") B F.slot_enumerate_next
   (O8 F.slot_enumerate_next B F.entry_enumerate_next ?_ (F.args_enumerate_next_1 _))))
  show ed _ _ (Sj (.ref e) 2>>=_) _ _ _;refine NN (OL he rfl (x:=.ref it) rfl ?_);refine NN (dn X.A.in1 its.toArray i s _ _ (by show X.A.handled=none;exact I.ok.hd p) hs f (by simp;omega) λh' x a6 R=>?_);obtain⟨o,ho,n⟩:=R;refine NN (QI (T:="StopIteration") (b:=b_) ⟨o,ho,n⟩ Ra ?_);exact NT ⟨rfl,vL (t':=s.toks) I hf λb o Z q=>a6 b o (λz=>Z (by simp[z])) q⟩
 self:=λ_ _ _ _ _ st h=>by obtain⟨⟨old,he⟩,_⟩:=st;exact Rg he h
theorem xK(l:b')(items:Array a_):
  Tf (Builtin.«enumerate.__new__» ⟨[.type "enumerate",.ref l],[]⟩) (λ_ R s=>s.heap.IsTuple l items/\
   R (.ok (.ret (.ref (s.heap.push (FE l)).objs.size)))
    {s with heap:=(s.heap.push (FE l)).push {cls:=.type "enumerate",data:=.fields #[.none,.bool c_,.ref s.heap.objs.size,wk 0,.none,.none]}}):=
 .of_wp λprog w A R s h=>by
  obtain⟨P,g,d,Q,os⟩:=s;obtain⟨W,h⟩:=h;have U:=sub_enumerate;have X:RY (Sl ⟨P,g,d,Q,os⟩) l items:=W;obtain⟨⟨c,T,S,O⟩,Z,Y,n,hd⟩:=W;replace Y:c= .type "tuple":=Y;replace hd:S= .seq items n:=hd;subst Y hd
  wp_walk using PJ Z
  refine wpAny_stack_any λst=>NT ?_;split
  ·rename_i c _ _ _ _ _
   cases (c==H_ "enumerate")
   ·wp_walk using PJ Z,Pe X
    exact⟨_,rfl,h⟩
   ·wp_walk using PJ Z,Pe X
    exact⟨_,rfl,h⟩
  ·wp_walk using PJ Z,Pe X
   exact⟨_,rfl,h⟩
section
variable {prog:dV}{w:d_}{A:f_}{E:a_->cn->Prop}{s:cn}
theorem zS{Q:a_->cn->Prop}(Y:s.heap.IsTuple l items)
  (h:∀h',IsEnum h' (s.heap.objs.size+1) s.heap.objs.size 0 .none->h'.IsTupleIter s.heap.objs.size l 0->(∀b o,s.heap.get? b=ar o->h'.get? b=ar o)->Q (.ref (s.heap.objs.size+1)) {s with heap:=h'}):
  ed (er prog w) A (call (.type "enumerate") [.ref l]) Q E s:=by
 refine callType_new F.called_enumerate (by decide) (F.typeCall_enumerate_1 _) (F.newCall_enumerate_1 _) (λobj=>F.args_object_init_2 obj _) F.entry_enumerate_new (xK l items) ⟨Y,?_⟩;have Z:(s.heap.push (FE l)).objs.size=s.heap.objs.size+1:=OZ ..;have g2:=N4 (s.heap.push (FE l)) (o:={cls:=.type "enumerate",data:=.fields #[.none,.bool c_,.ref s.heap.objs.size,wk 0,.none,.none]}) rfl;have g1:((s.heap.push (FE l)).push {cls:=.type "enumerate",data:=.fields #[.none,.bool c_,.ref s.heap.objs.size,wk 0,.none,.none]}).get? s.heap.objs.size=ar (FE l):=NO _ (N4 _ rfl);show _/\_;rw[Z]at g2⊢;exact⟨⟨_,g2,rfl⟩,h _ g2 ⟨_,g1,rfl,rfl⟩ λb o q=>NO _ (NO _ q)⟩
end
theorem GF{X:Cx}{O:List Expr}{x1}{tp p pos:Pos}{e:Expr}{x:TA}(w:Gl X "enumerate")(n:X.mg "enumerate"=none)(r:PA X [e] x)(hs:dt [e] X.env=[(c_,hD e X.env)]:=by rfl):
  PI X (.Tuple O x1 tp) (.Call (.Name "enumerate" p) [e] [] pos) (λσ H R=>x σ H λxs W=>(∃a U,xs=[.ref a]/\W a=ar (.tup U)/\R (LW λH G=>H a=ar (.tup G)) W)\/
   (∃a U,xs=[.ref a]/\Rd W a (.lst U)/\R (LW λH G=>Rd H a (.lst G)) W)):=by
 intro pins s σ H R I h;refine Te (nJ I w n (show k_ "enumerate"=ar (.type "enumerate") by decide+kernel) (O6 (eM (r pos pins s σ H _ I h) λus s1 ⟨vs,W,I1,r1,q1⟩=>?_) hs (by rfl)) (by decide) (by decide));have fresh:∀c∈[s1.heap.objs.size+1,s1.heap.objs.size],s1.heap.objs.size<=c:=λc Y=>by simp only[eu,ee,or_false]at Y;omega
 rcases q1 with⟨a,U,rfl,hA,q⟩|⟨a,U,rfl,hA,q⟩
 ·obtain⟨u,rfl,L⟩:=vals1 r1;cases (show u=ey a from L);obtain⟨P,N,S,_⟩:=I1.tuple (.of hA);have a1:a<s1.heap.objs.size:=by obtain⟨_,e,_⟩:=S;exact NV e
  refine zS S λh' T J y=>Rg T ?_;refine⟨s1.heap.objs.size+1,_,_,_,W,rfl,I1.kept (t':=s1.toks) y,uF (e:=s1.heap.objs.size+1) (it:=s1.heap.objs.size) (t:=a) (Nat.succ_ne_self _) (Ob (O1 a1)) (Ob a1) (sti:=λi h=>h.IsTupleIter s1.heap.objs.size a i) (sq:=λits h=>h.IsTuple a its)
   (λi h ⟨o,e,c,d⟩=>⟨o,e,λv z=>by rw[d]at z;cases z⟩) (λi h h' st k=>st.at k) (λX pins s σ H U _ _ _ I K=>let ⟨its,rv,p,_⟩:=I.tuple (.of K);⟨its,rv,p⟩)
   (λA items Z=>Jr Z (Ob a1) items) (λA items i s Q E Z F C B k=>m4 Z F C B k),⟨⟨_,T⟩,J⟩,λc Y=>I1.fpOk (fresh c Y) (I1.hok.fresh (fresh c Y)),q⟩
 ·obtain⟨u,rfl,L⟩:=vals1 r1;cases (show u=ey a from L);obtain⟨P,N,S,_⟩:=I1.list (.inl hA);have a1:a<s1.heap.objs.size:=by obtain⟨_,e,_⟩:=S.isList;exact NV e
  refine call_enumerate_list S.isList λh' T J m y=>Rg T ?_;refine⟨s1.heap.objs.size+1,_,_,_,W,rfl,I1.kept (t':=s1.toks) y,uF (e:=s1.heap.objs.size+1) (it:=s1.heap.objs.size) (t:=a) (Nat.succ_ne_self _) (Ob (O1 a1)) (Ob a1) (sti:=λi h=>h.IsListIter s1.heap.objs.size a i) (sq:=λits h=>h.IsList a its)
   (λi h ⟨o,e,c,d⟩=>⟨o,e,λv z=>by rw[d]at z;cases z⟩) (λi h h' st k=>st.at k) (λX pins s σ H U _ _ _ I K=>let ⟨its,rv,p,_⟩:=I.list (.inl K);⟨its,rv,p.isList⟩)
   (λA items Z=>Js Z (Ob a1) items) (λA items i s Q E Z F C B k=>wpAny_nextOf_list_end Z F C B k),⟨⟨_,T⟩,J⟩,λc Y=>I1.fpOk (fresh c Y) (I1.hok.fresh (fresh c Y)),q⟩
def mr(xs:List D):List D:=xs.zipIdx.map λp=>.tup [.int p.2,p.1]
def D2:D->M Iter
 | .tup xs=>aC ⟨mr xs,.none⟩
 | .fz xs=>aC ⟨mr xs,.none⟩
 |_=>M.fail
theorem D3{xs:List D}{i:Nat}{d:D}(h:(mr xs)[i]? =ar d):∃x,xs[i]? =ar x/\d= .tup [.int i,x]:=by
 unfold mr at h;rw[OR]at h;cases q:xs.zipIdx[i]? with
 |none=>rw[q]at h;cases h
 |some p=>
  rw[q]at h;cases h;rw[List.getElem?_zipIdx]at q;cases z:xs[i]? with
  |none=>rw[z]at q;cases q
  |some x=>rw[z]at q;cases q;exact⟨x,rfl,by simp⟩
theorem qH{K:cC}{O:List b'}{H:Hp}{xs:List D}{T:Hp->List V->Prop}(S:∀H X vb,T H X->T H vb->X=vb)
  (U:∀Z Y S2,ExtN O H Z Y->Rep K Z Y S2->∃X,T Y X/\RelDs K Z Y xs X):j8 K ⟨mr xs,.none⟩ (LW T) O H:=by
 intro Z Y S2 e rep2 ok i;obtain⟨X,R,N⟩:=U Z Y S2 e rep2;have J:=N.length;refine⟨λd hd=>?_,λhlen=>⟨X,R,by unfold mr at hlen;simp at hlen;omega⟩⟩;obtain⟨x,P,rfl⟩:=D3 hd;have I:=(NX.mp P).1;refine⟨⟨X,R,by omega⟩,?_⟩;rintro v H3 ⟨va',p,v1,gA,hp,g1,rfl,rfl⟩;cases S _ _ _ R gA;obtain⟨v2,e2,L⟩:=N.get' P;obtain rfl:v2=v1:=Oj (e2.symm.trans g1);have Q:Ext Z Y Z (upd Y p (.tup [.int i,v2])):=iI hp;exact⟨Q,kL rep2 hp,.tup bf (.cons (.int _) (.cons (L.later rep2 Q) .nil))⟩
theorem vS{X:Cx}{E:XD}{Y:List Expr}{x1}{tp p pos:Pos}{a:Expr}{m:TM}(J:X.mg "enumerate"=none)(K:SE X E a m)(N:Gl X "enumerate":=by rfl)(hs:dt [a] X.env=[(c_,hD a X.env)]:=by rfl):
  SI X E (.Tuple Y x1 tp) (.Call (.Name "enumerate" p) [a] [] pos) (λρ=>do let x<-m ρ;D2 x):=by
 intro pins s σ H R I h;refine GF N J (kI K pF hs) hs pins s σ H R I ?_;obtain⟨P,S,ρ,rep,re,c⟩:=h;refine⟨P,S,ρ,rep,re,az (av c) λd O S1 G e1 rep1 c1 v r=>?_⟩;show(∃a T,[v]=[V.ref a]/\_)\/_;cases d with
 |tup xs=>
  obtain⟨a,vs,rfl,Z,U⟩:=r.tup_inv;refine .inl ⟨a,vs,rfl,Z,ao c1 .refl rep1 _ (qH (λH T L e1 e2=>by rw[e1]at e2;cases e2;rfl) λW Q S2 e rep2=>?_)⟩;exact⟨vs,(e.oth _ _ Z (rep1.notIn Z (by intro _ z;cases z)) (by intro _ z;cases z) (by intro _ z;cases z)).1,U.laterN rep1 e⟩
 |fz xs=>
  obtain⟨a,o,vs,rfl,Z,U⟩:=r.fz_inv;refine .inr ⟨a,vs,rfl,.inr ⟨o,Z⟩,ao c1 .refl rep1 _ (qH (λH T L e1 e2=>Rd.lst_inj e1 e2) λW Q S2 e rep2=>?_)⟩;exact⟨vs,.inr ⟨o,(e.oth _ _ Z (rep1.notIn Z (by intro _ z;cases z)) (by intro _ z;cases z) (by intro _ z;cases z)).1⟩,U.laterN rep1 e⟩
 |_=>exact(au c1).elim
abbrev uG(m:TM):aE->M Iter:=λρ=>do let x<-m ρ;D2 x
end S4
namespace S3
open PySem PySem.Spec PyProof.Rows L2
section
variable {X:Cx}{E:XD}{a b e c o tg:Expr}{m n l:TM}{pos p2:Pos}{es:List Expr}{ms:aE->M (List D)}
theorem range_any{bs:List Bool}:(dq bs.length).any (λi=>bs.getD i c_)=bs.any id:=by
 induction bs with
 |nil=>rfl
 |cons b bs ih=>
  rw[Ou,Qx,Rm,R0];simp only[y3,RD,id];congr 1
theorem Cd(P:X.calm=b_):d8 X (.builtin "any") (λxs H Q=>∃(p:b') (bs:List Bool),xs=[.ref p]/\lQ X.K H p (bs.map V.bl)/\Q (.bl (bs.any id)) H):=by
 intro pins s σ H xs us Q I r h;obtain⟨p,bs,rfl,L,q⟩:=h;obtain⟨u,rfl,O⟩:=vals1 r;cases (show u=ey p from O);obtain⟨its,R,C,x⟩:=I.list L;have W:=C.isList;refine call_any_walk (QC W ?_);have U:p<s.heap.objs.size:=by obtain⟨o,F,_⟩:=W;exact NV F
 have hlen:=R.length;refine⟨s.heap.objs.size,_,_,_,_,_,λi=>bs.getD i c_,rfl,Sx (A:=X.A.in1) (by show X.A.handled=none;exact I.ok.hd P) s.heap.objs.size p (Ob U) its.toArray,⟨⟨_,N4 _ rfl,rfl,rfl⟩,W.push _⟩,?_,λh' B N=>?_⟩
 ·intro i v s' y E' G T;have Z:its[i]? =ar v:=by simpa using G
  have z:i<its.length:=(NX.mp Z).1;have Y:i<bs.length:=by rw[NM]at hlen;omega
  have:(bs.map V.bl)[i]? =ar (.bl bs[i]):=by rw[OR,NR Y];rfl
  obtain⟨u,S,J⟩:=R.get this;rw[Z]at S;cases S;cases (show v=u4 bs[i]from J);have:bs.getD i c_=bs[i]:=by simp[List.getD,Y]
  dsimp only at T;rw[this]at T;exact OP T
 ·have e1:its.toArray.size=bs.length:=by rw[N5, <-hlen,NM]
  rw[e1,range_any];refine⟨.bl _,H,I.kept (λb o e=>N b o ?_ (NO _ e)),rfl,q⟩;have:b≠s.heap.objs.size:=Ob (NV e);simpa using this
def xM:List D->M D
 |[.lst k]=>do
  let xs<-getL k
  match boolsOf xs with
  |some bs=>aC (.bl (bs.any id))
  |none=>M.fail
 |[.fz xs]=>match boolsOf xs with
  |some bs=>aC (.bl (bs.any id))
  |none=>M.fail
 |_=>M.fail
theorem Ce:lW X.K E xM (λxs H Q=>∃(p:b') (bs:List Bool),xs=[.ref p]/\lQ X.K H p (bs.map V.bl)/\Q (.bl (bs.any id)) H):=by
 intro P S H ds vs Q rep r c;unfold xM at c;split at c
 ·next k=>
  obtain⟨v,ws,rfl,T,W⟩:=r.cons_inv;cases W.nil_inv;obtain⟨p,rfl,Y⟩:=T.lst_inv;obtain⟨es,us,_,R,U,Z⟩:=bI c rep Y;cases q:boolsOf es with
  |none=>rw[q]at Z;exact(au Z).elim
  |some bs=>
   rw[q]at Z;refine⟨p,bs,rfl,.of ?_,ao Z .refl rep _ (.bl _)⟩;rw[<-gY U q];exact R
 ·next es=>
  obtain⟨v,ws,rfl,T,W⟩:=r.cons_inv;cases W.nil_inv;obtain⟨p,o,us,rfl,Y,U⟩:=T.fz_inv;cases q:boolsOf es with
  |none=>rw[q]at c;exact(au c).elim
  |some bs=>
   rw[q]at c;refine⟨p,bs,rfl,.inl (.inr ⟨o,?_⟩),ao c .refl rep _ (.bl _)⟩;rw[<-gY U q];exact Y
 ·exact(au c).elim
theorem D4(Y:X.calm=b_)(Z:X.mg "any"=none)(W:SE X E e m)(U:Gl X "any":=by rfl)(hs:dt [e] X.env=[(c_,hD e X.env)]:=by rfl):SE X E (.Call (.Name "any" p) [e] [] pos) (bX xM m):=
 i7 (Cd Y) Ce U Z (by decide+kernel) (af W ah hs) (by decide) (by decide) hs rfl
def MT:D->M Bool
 | .bl b=>aC b
 | .non=>aC c_
 | .int i=>aC (i !=0)
 | .tup xs=>aC (!xs.isEmpty)
 | .fz xs=>aC (!xs.isEmpty)
 | .lst k=>do let xs<-getL k;aC (!xs.isEmpty)
 |_=>M.fail
abbrev bT(m:TM):aE->M Bool:=λρ=>do let x<-m ρ;MT x
theorem mv{K:cC}{Z:List b'}{H:Hp}{ds:List D}{vs:List V}(r:RelDs K Z H ds vs):(!ds.isEmpty)= !vs.isEmpty:=by cases r<;>rfl
theorem D5(h:SE X E e m)(O:∀whole,isTrue e X.env whole=(do let v<-whole;xi e.pos;wh [v] (SL v)):=by intro _;rfl):SB X E e (bT m):=by
 refine PT.imp (C8 h O) λσ H Q q=>?_;obtain⟨W,S,ρ,rep,re,c⟩:=q;refine⟨W,S,ρ,rep,re,az (av c) λx P S1 N e1 rep1 c1 v r=>?_⟩;cases x with
 |bl b=>rw[r.bl_inv];exact⟨b,rfl,ao c1 .refl rep1⟩
 |non=>rw[r.non_inv];exact⟨c_,rfl,ao c1 .refl rep1⟩
 |int i=>rw[r.int_inv];exact⟨_,rfl,ao c1 .refl rep1⟩
 |tup xs=>
  obtain⟨a,vs,rfl,Z,Y⟩:=r.tup_inv;exact⟨_,.inr (.inl ⟨vs,.of Z,(mv Y)⟩),ao c1 .refl rep1⟩
 |fz xs=>
  obtain⟨a,o,vs,rfl,Z,Y⟩:=r.fz_inv;exact⟨_,.inl ⟨vs,.inl (.inr ⟨o,Z⟩),(mv Y)⟩,ao c1 .refl rep1⟩
 |lst k=>
  obtain⟨a,rfl,Z⟩:=r.lst_inv;obtain⟨xs,vs,_,U,T,R⟩:=bI c1 rep1 Z;exact⟨_,.inl ⟨vs,.of U,(mv T)⟩,ao R .refl rep1⟩
 |_=>exact(au c1).elim
end
end S3
section
namespace S3
open PySem PySem.Spec PyProof.Rows L2
section
variable {prog:dV}{w:d_}{A:f_}{R:SM->cn->Prop}{s:cn}
theorem zT
  (Y:sb (er prog w) A (.compLoop (.ListComp elt [c1,⟨target,iter,ifs,0⟩] scope pos) 1 it acc env) R s)
  (h:ed (er prog w) A (RN it) (λZ s'=>sb (er prog w) A (.compLoop (.ListComp elt [c1,⟨target,iter,ifs,0⟩] scope pos) 1 Z acc env) R s')
   (notedBy (er prog w) A env λx s'=>R (.error x) s') s):
  sb (er prog w) A (.compStart (.ListComp elt [c1,⟨target,iter,ifs,0⟩] scope pos) 1 it acc env) R s:=by
 refine QU ?_;show ed _ _ ((compStart (.ListComp elt [c1,⟨target,iter,ifs,0⟩] scope pos) 1 it acc env).onRaise (λx=>do zl x env;xi theWindowsPlace)) _ _ s;refine wpAny_notedAt ?_;unfold compStart;show ed _ _ (ask>>=_) _ _ s;refine NN (wpAny_askSetting (wpAny_ite ?_));split
 ·first
   |exact NN (NT (NT (Se rfl Y)))
   |exact NT (Se rfl Y)
 ·first
   |exact NN (QB (NN (OM (NN (Oq h (λZ s' h'=>NT (Se rfl h')) λ_ _ x=>x)))))
   |(refine NN (QB ?_);show ed _ _ (xi iter.pos>>=_) _ _ s;exact NN (OM (NN (Oq h (λZ s' h'=>NT (Se rfl h')) λ_ _ x=>x))))
end
abbrev Jt:=St->Hp->(St->Hp->Prop)->Prop
def AU(J:It)(g:TG)(tt:TT)(tb:Jt)(fin:St->Hp->Prop):St->Hp->Prop:=λσ H=>∃W:Nat->Nat->St->Hp->Prop,(∃m,W 0 m σ H)/\∀i m σc Hc,W i m σc Hc->
  (J.stop i Hc/\fin σc Hc)\/(J.go i Hc/\∃N:St->Hp->Prop,(∀ σ' H',N σ' H'->∃m',m'<m/\W (i+1) m' σ' H')/\∀x H',J.yld i Hc x H'->g x σc H' λσ2 H2=>tt σ2 H2 λb H3=>if b=b_ then tb σ2 H3 N else N σ2 H3)
def MU(X:Cx)(bd:Sem Unit)(tb:Jt):Prop:=∀(pins:List (b'×Obj)) (s:cn) (σ:St) (H:Hp) (N:St->Hp->Prop),Inv X pins σ H s->tb σ H N->∀E,(∀v s',X.xe v s'->E v s')->ed (er X.prog X.w) X.A bd (λ_ s'=>∃ σ' H',Inv X pins σ' H' s'/\N σ' H') E s
def zU(e:Expr)(d:Nat)(ipos:Pos)(tg:Expr)(ifs:List Expr)(it acc:a_)(env:Env)(bd:Sem Unit):Sem Fin:=do
 xi ipos
 match<-RM it with
 |none=>aC (.done .next)
 | some v=>
  x_ tg it v
  Ic tg env v
  let mut ok:=b_
  for c in ifs do
   if ok then ok<-isTrue c env (hD c env)
  if ok then bd
  RI (.compLoop e d it acc env)
theorem Ld(U S Y T Z:Expr)(W X:List Expr)(scope:Scope)(pos:Pos)(it acc:a_)(env:Env):
  RW (.ListComp U [⟨S,Y,W,0⟩,⟨T,Z,X,0⟩] scope pos) 0 it acc env=zU (.ListComp U [⟨S,Y,W,0⟩,⟨T,Z,X,0⟩] scope pos) 0 Y.pos S W it acc env
  (do let x<-hD Z env;xi Z.pos;let x<-gi Z env x;let _<-runOwn (.compStart (.ListComp U [⟨S,Y,W,0⟩,⟨T,Z,X,0⟩] scope pos) 1 (<-wh [x] (RN x)) acc env) env):=by
 unfold RW zU;simp;rfl
section
variable {X:Cx}{pins:List (b'×Obj)}{σ:St}{H:Hp}{s:cn}
theorem xN{O:Nat->eg->Prop}{P:St->Hp->Prop}{R:SM->cn->Prop}
  (S:∀v s',X.xe v s'->False) (G:X.calm=b_) (T:Turn X.prog X.w X.K tg J fp it O) (F:PG X tg g) (E:FA X ifs tt) (B:MU X bd tb)
  (U:RW (.ListComp elt gens scope pos) d (.ref it) acc X.env=zU (.ListComp elt gens scope pos) d ipos tg ifs (.ref it) acc X.env bd)
  (I:Inv X pins σ H s) (st:O 0 s.heap) (f:∀b∈fp,lM X pins H b) (h:AU J g tt tb P σ H) (Q:∀s' σ' H',Inv X pins σ' H' s'->P σ' H'->R (.ok .next) s'):
  sb (er X.prog X.w) X.A (.compLoop (.ListComp elt gens scope pos) d (.ref it) acc X.env) R s:=by
 obtain⟨W,⟨m0,y⟩,turn⟩:=h;have Z:∀{H':Hp},(∀b∈fp,H' b=none)->∀b∈fp,lM X pins H' b:=λC b Y=>⟨C b Y,(f b Y).2⟩;refine codeAny_loop rfl (λn s'=>∃i σ' H',Inv X pins σ' H' s'/\O i s'.heap/\(∀b∈fp,H' b=none)/\W i n σ' H') ?_ m0 ⟨0,_,_,I,st,λb Y=>(f b Y).1,y⟩;rintro n s4 ⟨i,σ4,H4,I4,st4,fr4,w4⟩;show ed _ X.A ((RW (.ListComp elt gens scope pos) d (.ref it) acc X.env).onRaise (λx=>do zl x X.env;theTreesLotGoes x)) _ _ s4;refine wpAny_noted ?_;rw[U];refine NN (OM (NN ?_));rcases turn i n σ4 H4 w4 with⟨stop,qn⟩|⟨go,N,hN,step⟩
 ·refine Oq (T.done X rfl rfl rfl G i pins s4 σ4 H4 (λ_ _=>False) I4 (Z fr4) st4 stop) (λr s5 ⟨hr,I5⟩=>?_) λ_ _ z=>z.elim;subst hr;exact NT (Q s5 σ4 H4 I5 qn)
 ·refine Oq (T.item X rfl rfl rfl G i pins s4 σ4 H4 (λ_ _=>False) I4 (Z fr4) st4 go) (λr s5 ⟨u,hr,h5⟩=>?_) λ_ _ z=>z.elim;subst hr;refine NN (Oq h5 (λ_ s6 ⟨x,H6,I6,r6,y6,st6,fr6⟩=>?_) λ_ _ z=>z.elim);have L:=I6.pinned (Z fr6) (T.obj _ _ st6);refine NN (Oq (F _ s6 σ4 H6 x u _ L r6 (step x H6 y6)) (λ_ s7 ⟨σ7,H7,I7,q7⟩=>?_) λ_ _ z=>(S _ _ z).elim);refine NN (Oq (E _ s7 σ7 H7 _ I7 q7) (λb s8 ⟨H8,I8,q8⟩=>?_) λ_ _ z=>(S _ _ z).elim);have RI:∀{σ9:St} {H9:Hp} {s9:cn},Inv X (pins++pD fp s6.heap) σ9 H9 s9->N σ9 H9->
    ∃m,m<n/\∃i σ' H',Inv X pins σ' H' s9/\O i s9.heap/\(∀b∈fp,H' b=none)/\W i m σ' H':=λ{σ9 H9 s9} I9 n9=>by
   obtain⟨t,hm,q⟩:=hN σ9 H9 n9;refine⟨t,hm,i+1,σ9,H9,I9.unpinned,T.keep _ _ _ st6 λb Y o e=>(I9.pin (b,o) (N9 _ (N9 _ (gy Y e)))).1,λb Y=>?_,q⟩;obtain⟨o,e,d⟩:=T.obj _ _ st6 b Y;exact(I9.pin (b,o) (N9 _ (N9 _ (gy Y e)))).2.1
  cases b with
  |false=>exact NT ⟨rfl,RI I8 q8⟩
  |true=>exact NN (Oq (B _ s8 σ7 H8 N I8 q8 (λ_ _=>False) λ_ _ z=>(S _ _ z).elim) (λ_ s9 ⟨σ9,H9,I9,q9⟩=>NT ⟨rfl,RI I9 q9⟩) λ_ _ z=>z.elim)
def Cf(p:b')(te:TE):Jt:=λσ H N=>te σ H λy H4=>∃xs,H4 p=ar (.lst xs)/\xs.length<sizeLine/\N σ (upd H4 p (.lst (xs++[y])))
theorem GG(W:PE X elt te):MU X (do let _<-call (.builtin "list.append") [.ref p, <-hD elt X.env]) (Cf p te):=by intro pins s σ H N I h E Y;refine NN (Oq (W _ s σ H _ I h) (λy s9 ⟨yv,H9,I9,r9,q9⟩=>?_) Y);obtain⟨xs,Z,T,U⟩:=q9;refine NN (Oq (pH (X:=X) _ s9 σ H9 (.ref p) [yv] (.ref p) [y] (λ_ S=>N σ S) I9 rfl (.cons r9 .nil) ⟨p,xs,yv,rfl,rfl,Z,T,U⟩) (λ_ s10 ⟨_,H10,I10,_,q10⟩=>?_) Y);exact NT ⟨σ,H10,I10,q10⟩
def LX(wi:TI)(g:TG)(tt:TT)(tb:Jt):Jt:=λσ H N=>wi σ H λJ H1=>AU J g tt tb N σ H1
theorem Ju(U:∀v s',X.xe v s'->False)(Q:X.calm=b_)(C:PI X tg iter wi)(P:PG X tg g)(L:FA X ifs tt)(R:PE X elt te)
  (hs:∀x,gi iter X.env x=aC x):
  MU X (do let x<-hD iter X.env;xi iter.pos;let x<-gi iter X.env x;let _<-runOwn (.compStart (.ListComp elt [c1,⟨tg,iter,ifs,0⟩] scope pos) 1 (<-wh [x] (RN x)) (.ref p) X.env) X.env) (LX wi g tt (Cf p te)):=by
 intro pins s σ H N I h E S;refine NN (Oq (C pins s σ H _ I h) (λv s1 B=>?_) S);refine NN (OM (NN (Si (hs v) (NN (O5 (Oq B (λy s2 z=>?_) S))))));obtain⟨it,t,q,J,u,e,O,T,Y,f2,F⟩:=z;subst e;have loop:sb (er X.prog X.w) X.A (.compLoop (.ListComp elt [c1,⟨tg,iter,ifs,0⟩] scope pos) 1 (.ref it) (.ref p) X.env) (λr s'=>match r with| .ok f=>ed (er X.prog X.w) X.A (aC ()) (λ_ s'=>∃Z W,Inv X pins Z W s'/\N Z W) E s'| .error e=>cameBackBy (er X.prog X.w) X.A X.env E e s') s2:=
  xN (ipos:=iter.pos) U Q T P L (GG R) (by rfl) O Y f2 F λs' Z W G K=>NT ⟨Z,W,G,K⟩
 exact NN (wpAny_runOwn (zT loop (T.self _ 0 _ _ _ Y loop)))
end
def D6(wi:TI)(js:List (Option Nat))(g:TG)(tt:TT)(tb:b'->Jt):TE:=λσ H Q=>wi σ H λJ H1=>∀p,H1 p=none->AU J g tt (tb p) (λ_ H'=>Q (.ref p) H') (pK js σ) (upd H1 p (.lst []))
section
variable {X:Cx}{scope:Scope}{Nc:List Str}{js:List (Option Nat)}{pins:List (b'×Obj)}{σ:St}{H:Hp}{s:cn}
theorem D7(c:CompScope X scope Nc js)(hc:X.calm=b_)(hi:PI X tg iter wi)
  (i:∀C ex s H,PG (bp X scope Nc C ex s H) tg g/\FA (bp X scope Nc C ex s H) ifs tt/\PI (bp X scope Nc C ex s H) tg2 iter2 wi2/\PG (bp X scope Nc C ex s H) tg2 g2/\FA (bp X scope Nc C ex s H) ifs2 tt2/\PE (bp X scope Nc C ex s H) elt te)
  (hs:∀x,gi iter X.env x=aC x:=by intro _;rfl) (d:∀env x,gi iter2 env x=aC x:=by intro _ _;rfl):
  PE X (.ListComp elt [⟨tg,iter,ifs,0⟩,⟨tg2,iter2,ifs2,0⟩] scope pos) (D6 wi js g tt λp=>LX wi2 g2 tt2 (Cf p te)):=by
 intro pins s σ H Q I h;rw[eval_ListComp];refine wpAny_comprehension_free rfl hs (oy scope X.env (c.has I.ok)) c.kind c.loc (eM (hi pins s σ H _ I h) λv s1 O=>eM O λc3 s2 h2=>?_);obtain⟨it,U,tn,J,Y,e,I2,T,K,f2,u⟩:=h2;subst e;refine OQ (uw λO P W R=>?_);dsimp only at P W R⊢;have u:=u s2.heap.objs.size (I2.hok.fresh (NQ _));have a:Inv X pins σ (upd Y s2.heap.objs.size (.lst [])) {s2 with heap:=s2.heap.push {cls:=.type "list",dict:=none,data:=.seq ([]:List a_).toArray}}:=
  I2.laid (t':=s2.toks) (λ_ _ q=>NO _ q) (NQ _) ⟨Og _,[],0,.nil,N4 _ rfl⟩
 generalize hS3:({s2 with heap:=s2.heap.push {cls:=.type "list",dict:=none,data:=.seq ([]:List a_).toArray}}:cn)=s3 at a;have j:s3.heap=s2.heap.push {cls:=.type "list",dict:=none,data:=.seq ([]:List a_).toArray}:=by rw[<-hS3]
 rw[<-j]at P W R⊢;generalize hp:s2.heap.objs.size=p at*;have N:∀b∈U,b<p:=λb Z=>by obtain⟨o,e,_⟩:=T.obj _ _ K b Z;rw[<-hp];exact NV e
 have n:∀b∈U,b≠p:=λb Z=>Ob (N b Z);have r:∀b∈U,lM X pins (upd Y p (.lst [])) b:=λb Z=>⟨by rw[aO (n b Z)];exact(f2 b Z).1,(f2 b Z).2⟩;have L:s3.heap.objs.size=p+1:=by rw[j,OZ,hp]
 have G:∀b∈U,b<s3.heap.objs.size:=λb Z=>by rw[L];exact O1 (N b Z)
 have S:∀b o,s3.heap.get? b=ar o->O.get? b=ar o:=W;have E:tn 0 O:=T.keep _ _ _ K λb Z o e=>S b o (by rw[j];exact NO _ e);generalize hC:s3.heap.objs.size=C at*;have B:O.Ns C (λ_=>none):=by simpa using P
 have start:∀tk,Inv (bp X scope Nc C U s3 (upd Y p (.lst []))) [] (pK js σ) (upd Y p (.lst [])) {s3 with heap:=O,toks:=tk}:=λtk=>rR c a r (λb Z=>by rw[hC];exact G b Z) hC.symm B S R;have ok:=(start 0).ok;have F:∀b∈U,lM (bp X scope Nc C U s3 (upd Y p (.lst []))) [] (upd Y p (.lst [])) b:=λb Z=>
  ⟨(r b Z).1,(ok.exf b Z).1,ok.exfs b Z,.inl Z,(ok.exf b Z).2,λ_ z=>nomatch z⟩
 obtain⟨hG,hT,l,f,y,hE⟩:=i C U s3 (upd Y p (.lst []));have loop:∀s':cn,Inv (bp X scope Nc C U s3 (upd Y p (.lst []))) [] (pK js σ) (upd Y p (.lst [])) s'->tn 0 s'.heap->
   sb (er X.prog X.w) X.A (.compLoop (.ListComp elt [⟨tg,iter,ifs,0⟩,⟨tg2,iter2,ifs2,0⟩] scope pos) 0 (.ref it) (.ref p) (bp X scope Nc C U s3 (upd Y p (.lst []))).env) (SW (er X.prog X.w) X.A X.xe none (EP X pins σ Q) (.ref p) C) s':=by
  intro s' I' t;refine xN (X:=bp X scope Nc C U s3 (upd Y p (.lst []))) (ipos:=iter.pos) (λ_ _ z=>z) hc T hG hT (Ju (c1:=⟨tg,iter,ifs,0⟩) (scope:=scope) (pos:=pos) (λ_ _ z=>z) hc l f y hE (d _)) (Ld ..) I' t F u λs5 c4 H5 I5 q5=>?_;obtain⟨m,hm,_⟩:=I5.loc;exact⟨m,hm,λh2 k=>⟨.ref p,H5,xg a hC.symm r I5 k,rfl,q5⟩⟩
 refine codeAny_compStart_list (loop _ ?_ ?_) (T.self _ 0 _ _ _ ?_ (loop _ ?_ ?_))
 all_goals first
  |exact E
  |(subst hS3;exact start _)
end
end S3
end
namespace S3
open PySem PySem.Spec PyProof.Rows L2
abbrev BM:=aE->M (List D×aE)
def cB(it:Iter)(g:lR)(t:aE->M Bool)(bd:BM):List D->aE->M (List D×aE)
 |[],ρ=>do iJ it;aC ([],ρ)
 | d::ds,ρ=>do
  iJ it
  let ρ1<-g d ρ;let b<-t ρ1
  if b=b_ then do
   let x<-bd ρ1;let y<-cB it g t bd ds x.2
   aC (x.1++y.1,y.2)
  else cB it g t bd ds ρ1
def Cg(m:TM):BM:=λρ=>do let y<-m ρ;aC ([y],ρ)
def Jv(mi:aE->M Iter)(g:lR)(t:aE->M Bool)(m:TM):BM:=λρ=>do let it<-mi ρ;if it.items.length<=3000 then cB it g t (Cg m) it.items ρ else M.fail
abbrev pT(mi:aE->M Iter)(g:lR)(t:aE->M Bool)(mi2:aE->M Iter)(g2:lR)(t2:aE->M Bool)(m:TM)(js:List (Option Nat)):TM:=λρ=>do
 let it<-mi ρ;let x<-(if it.items.length<=3000 then cB it g t (Jv mi2 g2 t2 m) it.items (iK js ρ)else M.fail)
 bQ x.1
section
variable {K:cC}{p:b'}{Q:D->List b'->aK->Hp->Prop}
structure MkL(K:cC)(p:b')(ι:List b')(S:aK)(ρ:aE)(σ:St)(H:Hp)(xs:List D):Prop where
 rep:Rep K ι (dP H p) S
 re:RelE K ι (dP H p) ρ σ
 lst:∃vs,H p=ar (.lst vs)/\RelDs K ι (dP H p) xs vs
 out:p∉ι
abbrev KM:=List D->aE->M D
def D8(K:cC)(p:b')(Q:D->List b'->aK->Hp->Prop)(B:Nat)(bd:BM)(tb:Jt):Prop:=
 ∀ ι S ρ σ H xs (k:KM) (N:St->Hp->Prop) (n:Nat),MkL K p ι S ρ σ H xs->xs.length<=n->n+B<=lim->cont K di (bd ρ>>=λx=>k (xs++x.1) x.2) ι S (dP H p) Q->
  (∀ ι' S' ρ' σ' H' xs',MkL K p ι' S' ρ' σ' H' xs'->xs'.length<=n+B->Ext ι (dP H p) ι' (dP H' p)->cont K di (k xs' ρ') ι' S' (dP H' p) Q->N σ' H')->tb σ H N
theorem Jw:D8 K p Q 1 (Cg m) (Cf p (tM K di m)):=by
 intro U S ρ σ H xs k N n mk J L c P;obtain⟨vs,R,T⟩:=mk.lst;have O:cont K di (m ρ>>=λy=>k (xs++[y]) ρ) U S (dP H p) Q:=by
  have:(Cg m ρ>>=λx=>k (xs++x.1) x.2)=(m ρ>>=λy=>k (xs++[y]) ρ):=by show((m ρ>>=λy=>aC ([y],ρ))>>=_)=_;rw[fg];rfl
  rw[<-this];exact c
 refine⟨U,S,ρ,mk.rep.unhide,mk.re.unhide,az (gC (E:=di) (av O) R mk.out) λy ι6 S6 H6 e6 rep6 ⟨hp6,hn6,c7⟩ yv ry=>?_⟩;have Y:Ext U (dP H p) ι6 (dP H6 p):=e6.hide;have Z:=T.later mk.rep Y;have X:vs.length<sizeLine:=by rw[<-Z.length];exact PZ (by omega) Dn
 refine⟨vs,hp6,X,P ι6 S6 ρ σ _ (xs++[y]) ⟨?_,?_,⟨vs++[yv],bf,?_⟩,hn6⟩ (by simp;omega) ?_ ?_⟩
 ·rw[eR];exact rep6.hide hp6 hn6
 ·rw[eR];exact(mk.re.unhide.later mk.rep.unhide e6).hide hp6
 ·rw[eR];exact Z.append (.cons (ry.hide hp6) .nil)
 ·rw[eR];exact Y
 ·rw[eR];exact c7
theorem xO{k:KM}{F:St->Hp->Prop}(a:j8 K it J ι1 H1)(hB:D8 K p Q B bd tb)
  (mk:MkL K p ι S ρ σ H xs) (e1:∀ ι2 Y,Ext ι (dP H p) ι2 (dP Y p)->ExtN ι1 H1 ι2 Y) (hl:xs.length<=n) (hn:n+it.items.length*B<=lim) (c:cont K di (cB it g t bd it.items ρ>>=λx=>k (xs++x.1) x.2) ι S (dP H p) Q)
  (hf:∀ ι' S' ρ' X U xs',MkL K p ι' S' ρ' X U xs'->xs'.length<=n+it.items.length*B->Ext ι (dP H p) ι' (dP U p)->cont K di (k xs' ρ') ι' S' (dP U p) Q->F X U):
  AU J (Dm K di g) (AH K di t) tb F σ H:=by
 refine⟨λi m N Y=>∃ ι2 S2 ρ2 xs2,m=it.items.length - i/\i<=it.items.length/\MkL K p ι2 S2 ρ2 N Y xs2/\xs2.length<=n+i*B/\Ext ι (dP H p) ι2 (dP Y p)/\
  cont K di (cB it g t bd (it.items.drop i) ρ2>>=λx=>k (xs2++x.1) x.2) ι2 S2 (dP Y p) Q,⟨_,ι,S,ρ,xs,rfl,Og _,mk,by omega,.refl,c⟩,?_⟩
 rintro i m N Y ⟨ι2,S2,ρ2,xs2,hm,hi',mk2,hl2,e2,c2⟩;by_cases hlt:i<it.items.length
 ·have hd:it.items.drop i=it.items[i]::it.items.drop (i+1):=P9 hlt;rw[hd]at c2;have P:cont K di (iJ it>>=λ_=>g it.items[i] ρ2>>=λZ=>t Z>>=λb=>if b=b_ then bd Z>>=λx=>(cB it g t bd (it.items.drop (i+1)) x.2>>=λy=>k (xs2++x.1++y.1) y.2)else cB it g t bd (it.items.drop (i+1)) Z>>=λx=>k (xs2++x.1) x.2) ι2 S2 (dP Y p) Q:=by
   have:(cB it g t bd (it.items[i]::it.items.drop (i+1)) ρ2>>=λx=>k (xs2++x.1) x.2)=(iJ it>>=λ_=>g it.items[i] ρ2>>=λZ=>t Z>>=λb=>if b=b_ then bd Z>>=λx=>(cB it g t bd (it.items.drop (i+1)) x.2>>=λy=>k (xs2++x.1++y.1) y.2)else cB it g t bd (it.items.drop (i+1)) Z>>=λx=>k (xs2++x.1) x.2):=by show((iJ it>>=λ_=>g it.items[i] ρ2>>=λZ=>t Z>>=λb=>if b=b_ then bd Z>>=λx=>cB it g t bd (it.items.drop (i+1)) x.2>>=λy=>aC (x.1++y.1,y.2)else cB it g t bd (it.items.drop (i+1)) Z)>>=λx=>k (xs2++x.1) x.2)=_;simp only[fg,AI,aq,List.append_assoc]
   rw[<-this];exact c2
  obtain⟨ok,A⟩:=ko P mk2.rep;obtain⟨e,b5⟩:=a ι2 Y S2 (e1 _ _ e2) mk2.rep.unhide ok i;obtain⟨go,yl⟩:=e it.items[i] (NR hlt);have O:n+i*B+B<=lim:=by have:(i+1)*B<=it.items.length*B:=Nat.mul_le_mul_right _ hlt;rw[PM]at this;omega
  refine .inr ⟨go,λX U=>∃ ι3 S3 ρ3 xs3,MkL K p ι3 S3 ρ3 X U xs3/\xs3.length<=n+(i+1)*B/\Ext ι (dP H p) ι3 (dP U p)/\cont K di (cB it g t bd (it.items.drop (i+1)) ρ3>>=λx=>k (xs3++x.1) x.2) ι3 S3 (dP U p) Q,?_,λx d hy=>?_⟩
  ·rintro X U ⟨ι3,S3,ρ3,xs3,h1,h2,h3,h4⟩;exact⟨_,by omega,ι3,S3,ρ3,xs3,rfl,hlt,h1,h2,h3,h4⟩
  ·obtain⟨j,rep3,rd⟩:=yl x d hy;obtain⟨vs,o,rx⟩:=mk2.lst;have I:=mk2.out;obtain⟨h,_⟩:=j.oth p _ o I (by intro _ z;cases z);have C:Ext ι2 (dP Y p) ι2 (dP d p):=j.hide;have c4:=av (kP A C);refine⟨ι2,S2,ρ2,it.items[i],rep3,mk2.re.unhide.later mk2.rep.unhide j,rd,az (gC (E:=di) c4 h I) λρ4 ι4 S4 H4 e4 rep4 ⟨hp4,hn4,c5⟩ σ4 re4=>?_⟩;have s:Rep K ι4 (dP H4 p) S4:=rep4.hide hp4 hn4;have f:Ext ι2 (dP Y p) ι4 (dP H4 p):=C.trans e4.hide;refine⟨ι4,S4,ρ4,rep4,re4,az (gC (E:=di) (av c5) hp4 hn4) λb ι5 S5 H5 e5 rep5 ⟨hp5,hn5,c6⟩=>?_⟩;have L:Rep K ι5 (dP H5 p) S5:=rep5.hide hp5 hn5;have R:Ext ι2 (dP Y p) ι5 (dP H5 p):=f.trans e5.hide;have v:RelE K ι5 H5 ρ4 σ4:=re4.later rep4 e5;have G:MkL K p ι5 S5 ρ4 σ4 H5 xs2:=⟨L,v.hide hp5,⟨vs,hp5,rx.later mk2.rep R⟩,hn5⟩;cases b with
   |false=>
    have T:cont K di (cB it g t bd (it.items.drop (i+1)) ρ4>>=λx=>k (xs2++x.1) x.2) ι5 S5 (dP H5 p) Q:=c6;exact⟨ι5,S5,ρ4,xs2,G,by rw[PM];omega,e2.trans R,T⟩
   |true=>
    have T:cont K di (bd ρ4>>=λx=>(λys ρ'=>cB it g t bd (it.items.drop (i+1)) ρ'>>=λy=>k (ys++y.1) y.2) (xs2++x.1) x.2) ι5 S5 (dP H5 p) Q:=c6;refine hB ι5 S5 ρ4 σ4 H5 xs2 (λys ρ'=>cB it g t bd (it.items.drop (i+1)) ρ'>>=λy=>k (ys++y.1) y.2) _ (n+i*B) G hl2 O T λw S6 r b1 H6 q u b6 e6 c7=>?_;exact⟨w,S6,r,q,u,by rw[PM];omega,e2.trans (R.trans e6),c7⟩
 ·have hd:it.items.drop i=[]:=Qw (by omega);rw[hd]at c2;have P:cont K di (iJ it>>=λ_=>k (xs2++[]) ρ2) ι2 S2 (dP Y p) Q:=by
   have:(cB it g t bd [] ρ2>>=λx=>k (xs2++x.1) x.2)=(iJ it>>=λ_=>k (xs2++[]) ρ2):=by show((iJ it>>=λ_=>aC ([],ρ2))>>=λx=>k (xs2++x.1) x.2)=_;simp only[fg,aq]
   rw[<-this];exact c2
  obtain⟨ok,A⟩:=ko P mk2.rep;rw[Oi]at A;have l:i=it.items.length:=by omega
  refine .inl ⟨(a ι2 Y S2 (e1 _ _ e2) mk2.rep.unhide ok i).2 (by omega),?_⟩;exact hf ι2 S2 ρ2 N Y xs2 mk2 (by rw[<-l];exact hl2) e2 A
theorem Ext.unhideP{H:Hp}(e:Ext ι (dP H p) ι' (dP H' p))(U:H p=ar (.lst ws)):ExtN ι H ι' H':=
 ⟨e.ids,λa o h n t l=>by
  have Z:a≠p:=λz=>by subst z;rw[U]at h;exact l ws (Oj h).symm
  obtain⟨Y,X⟩:=e.oth a o (by rw[hide_ne Z];exact h) n t;exact⟨(c9 Y).2,X⟩⟩
theorem Le:D8 K p Q 3000 (Jv mi g t m) (LX (J5 K di mi) (Dm K di g) (AH K di t) (Cf p (tM K di m))):=by
 intro X S ρ σ H xs k N n mk G w c A;obtain⟨vs,F,O⟩:=mk.lst;have y:cont K di (mi ρ>>=λit=>(if it.items.length<=3000 then cB it g t (Cg m) it.items ρ else M.fail)>>=λx=>k (xs++x.1) x.2) X S (dP H p) Q:=by
  have:(Jv mi g t m ρ>>=λx=>k (xs++x.1) x.2)=(mi ρ>>=λit=>(if it.items.length<=3000 then cB it g t (Cg m) it.items ρ else M.fail)>>=λx=>k (xs++x.1) x.2):=by show((mi ρ>>=λit=>_)>>=_)=_;rw[fg]
  rw[<-this];exact c
 refine⟨X,S,ρ,mk.rep.unhide,mk.re.unhide,az (gC (E:=di) (av y) F mk.out) λit ι1 S1 H1 e1 rep1 ⟨hp1,hn1,c1⟩ J hJ=>?_⟩;have Z:Ext X (dP H p) ι1 (dP H1 p):=e1.hide;have R:MkL K p ι1 S1 ρ σ H1 xs:=⟨rep1.hide hp1 hn1,(mk.re.unhide.later mk.rep.unhide e1).hide hp1,⟨vs,hp1,O.later mk.rep Z⟩,hn1⟩;by_cases h:it.items.length<=3000
 ·rw[if_pos h]at c1;exact xO (k:=k) hJ Jw R (λz v e=>e.unhideP hp1) G (by omega) c1 λU I ρ' Y C P mk' L B T=>A U I ρ' Y C P mk' (by omega) (Z.trans B) T
 ·rw[if_neg h]at c1;exact(au (av c1)).elim
section
variable {X:Cx}{scope:Scope}{Nc:List Str}{js:List (Option Nat)}{elt tg iter tg2 iter2:Expr}{ifs ifs2:List Expr}{pos:Pos}{mi mi2:aE->M Iter}{g g2:lR}{t t2:aE->M Bool}{m:TM}
theorem Ci{U:St}{H:Hp}{Q:VK}(h:tM X.K di (pT mi g t mi2 g2 t2 m js) U H Q):
  D6 (J5 X.K di mi) js (Dm X.K di g) (AH X.K di t) (λp=>LX (J5 X.K di mi2) (Dm X.K di g2) (AH X.K di t2) (Cf p (tM X.K di m))) U H Q:=by
 obtain⟨N,S,ρ,rep,re,c⟩:=h;refine⟨N,S,ρ,rep,re,az (av c) λit I S1 T e1 rep1 c1 J F p R=>?_⟩;by_cases hl:it.items.length<=3000
 ·rw[if_pos hl]at c1;have Z:dP (upd T p (.lst [])) p=T:=by rw[eR,i8 R]
  refine xO (K:=X.K) (p:=p) (Q:=nB X.K Q) (n:=0) (xs:=[]) (k:=λxs _=>bQ xs) (S:=S1) (ρ:=iK js ρ) F Le ⟨by rw[Z];exact rep1,by rw[Z];exact(re.later rep e1).blk js,⟨[],bf,by rw[Z];exact .nil⟩,rep1.free R⟩
   (λC A e=>by rw[Z]at e;exact e.unhide.n) (Og _) (by unfold lim;omega) (by rw[Z];exact c1) λL z ρ' G y B mk' O x E=>?_
  obtain⟨vs,Y,P⟩:=mk'.lst;have:=(bK E mk'.rep P).2 p mT;rw[xm Y]at this;exact this
 ·rw[if_neg hl]at c1;exact(au (av c1)).elim
theorem D9(c:CompScope X scope Nc js)(U:X.calm=b_)(T:SI X di tg iter mi)
  (Y:∀C ex s H,SG (bp X scope Nc C ex s H) di tg g/\J6 (bp X scope Nc C ex s H) di ifs t/\SI (bp X scope Nc C ex s H) di tg2 iter2 mi2/\SG (bp X scope Nc C ex s H) di tg2 g2/\J6 (bp X scope Nc C ex s H) di ifs2 t2/\SE (bp X scope Nc C ex s H) di elt m)
  (hs:∀x,gi iter X.env x=aC x:=by intro _;rfl) (Z:∀env x,gi iter2 env x=aC x:=by intro _ _;rfl):
  SE X di (.ListComp elt [⟨tg,iter,ifs,0⟩,⟨tg2,iter2,ifs2,0⟩] scope pos) (pT mi g t mi2 g2 t2 m js):=
 PE.imp (D7 (wi2:=J5 X.K di mi2) (g:=Dm X.K di g) (tt:=AH X.K di t) (g2:=Dm X.K di g2) (tt2:=AH X.K di t2) (te:=tM X.K di m) c U T Y hs Z) λ_ _ _ q=>Ci q
end
end
end S3
namespace S7
open PySem PySem.Spec PyProof.Rows L2 S3
section
open Sem (wp)
section
variable {prog:dV}{w:d_}{A:f_}{E:a_->cn->Prop}{h:eg}{g:Array J'}{d:Drawn}{t:Nat}{os:M'}
variable {nm q:Str}{C N:b'}{bs bm bmB:List a_}{hdct:Bool}{sn:List Str}{sub:List a_}{ab:Bool}{col:Option Bool}{dd:Option b'}{k0 k1 k2 k3 k5:Option a_}{B Bn newId nid initId inN:String}{bmN:List a_}
theorem qX(O:wN Bn newId inN bmN)(R:bmB.contains (.type Bn)=b_)(F:wN B nid initId bmB)(T:So h bmB bm){mN:Str->Option a_}{rest:List a_}{fI:b'}{oI:Obj}{Q:Fin->cn->Prop}
  (S:h.get? C=ar (vr nm q C N bs bm hdct sn sub ab col dd k0 k1 k2 k3 k5 newId)) (J:h.Ns N mN) (y:mN "__init__"=ar (.ref fI)) (P:h.get? fI=ar oI) (K:oI.cls= .type "function")
  (G:∀h' e,M_ h h' e (.ref C) rest->
   ed (er prog w) A (call (.ref fI) (.ref e::rest)) (λr s'=>r= .none/\Q (.done (.ret (.ref e))) s') E ⟨h',g,d,t,os⟩) (hrest:rest.length<=sizeLine:=by size_fits):
  ed (er prog w) A (Builtin.«type.__call__» ⟨.ref C::rest,[]⟩) Q E ⟨h,g,d,t,os⟩:=by
 repeat (first|with_reducible refine P7 S ?_ |with_reducible refine wpAny_madeBy_exc S ?_ |wp_step)
 refine codeAny_call_builtin_code (Q6 _ O.quiet) (wpAny_check_new_subU O R T S ?_);refine codeAny_exc_new_subU O R F T S ?_ hrest;show ed _ _ _ _ _ _;have Z:=NO {cls:=.ref C,data:=.fields #[.ref h.objs.size,.none,.none,.none,.bool c_,.none]}
  (NO {cls:=.type "tuple",data:=.seq rest.toArray} S)
 have Y:=NO {cls:=.ref C,data:=.fields #[.ref h.objs.size,.none,.none,.none,.bool c_,.none]}
  (NO {cls:=.type "tuple",data:=.seq rest.toArray} P)
 have W:((h.push {cls:=.type "tuple",data:=.seq rest.toArray}).push {cls:=.ref C,data:=.fields #[.ref h.objs.size,.none,.none,.none,.bool c_,.none]}).Ns N mN:=
  let ⟨o,es,ep,e,r⟩:=J;⟨o,es,ep,NO _ (NO _ e),r⟩
 have X:((h.push {cls:=.type "tuple",data:=.seq rest.toArray}).push
   {cls:=.ref C,data:=.fields #[.ref h.objs.size,.none,.none,.none,.bool c_,.none]}).get? (h.objs.size+1)=ar
   {cls:=.ref C,data:=.fields #[.ref h.objs.size,.none,.none,.none,.bool c_,.none]}:=by heap_get
 have L:(ey C::bm).contains (.ref C)=true:=by simp
 have U:=T.keeps (h':=(h.push {cls:=.type "tuple",data:=.seq rest.toArray}).push {cls:=.ref C,data:=.fields #[.ref h.objs.size,.none,.none,.none,.bool c_,.none]})
  λb o e=>NO _ (NO _ e)
 unfold Sz
 repeat (first|with_reducible refine P7 X ?_ |(with_reducible refine wpAny_isSubtype_exc Z ?_;rw[L])|wp_step)
 show ed _ _ (typeLookup (.ref C) _) _ _ _;refine wpAny_typeLookup_tail Z W U F.mroIs F.init.lookup ?_;rw[y];refine O5 (NN ?_);unfold bindSpecial;refine NN (Rx (T:="function") ⟨_,Y,K⟩ ?_);rw[if_pos (by decide)];refine NT (NN (Oq (G _ (h.objs.size+1) ⟨λb o H=>NO _ (NO _ H),OU (P3 _),h.objs.size,X,OU (NQ _),?_⟩) (λr s' I=>?_) λ_ _ x=>x))
 ·exact NO _ (Heap.get?_push_at rfl rfl)
 ·obtain⟨rfl,z⟩:=I
  wp_walk
  exact z
theorem zV(U:wN Bn newId inN bmN)(W:bmB.contains (.type Bn)=b_)(F:wN B nid initId bmB)(T:So h bmB bm){mN:Str->Option a_}{rest:List a_}{fI:b'}{oI:Obj}{Q:a_->cn->Prop}
  (Z:h.get? C=ar (vr nm q C N bs bm hdct sn sub ab col dd k0 k1 k2 k3 k5 newId)) (S:h.Ns N mN) (P:mN "__init__"=ar (.ref fI)) (Y:h.get? fI=ar oI) (X:oI.cls= .type "function")
  (R:∀h' e,M_ h h' e (.ref C) rest->
   ed (er prog w) (A.under (.builtin "type.__call__" ⟨.ref C::rest,[]⟩)) (call (.ref fI) (.ref e::rest)) (λr s'=>r= .none/\Q (.ref e) s') E ⟨h',g,d,t,os⟩) (hrest:rest.length<=sizeLine:=by size_fits):
  ed (er prog w) A (call (.ref C) rest) Q E ⟨h,g,d,t,os⟩:=by
 have f1:=tc_lookup;have f2:=tc_bind (.ref C);have O:(⟨h,g,d,t,os⟩:cn).TypeIs (.ref C) "type":=⟨_,Z,rfl⟩;refine RG (QU ?_);show ed _ _ (callAny (.ref C) _) _ _ _
 repeat (any_goals (first|assumption|with_reducible refine P7 Z ?_ |wp_step))
 refine⟨rfl,?_⟩;refine codeAny_call_builtin_at (Q6 _ (by decide+kernel)) entry_typeCall (wpAny_check_type_call_sub Z (qX (hrest:=hrest) U W F T Z S P Y X λh' e hm=>?_));exact R h' e hm
end
section
variable {M:SH}{A:f_}{E:a_->cn->Prop}{env:Env}
variable {nm q:Str}{C N:b'}{bs bm:List a_}{hdct:Bool}{sn:List Str}{sub:List a_}{ab:Bool}{col:Option Bool}{dd:Option b'}{k0 k1 k2 k3 k5:Option a_}{newId:String}
theorem jc(Y:bm.contains (.type "BaseException")=b_)(R:A.handled=none)
  (h:ed M A x (λv Z=>∃e t U,v= .ref e/\Z.heap.get? C=ar (vr nm q C N bs bm hdct sn sub ab col dd k0 k1 k2 k3 k5 newId)/\Z.heap.get? e=ar {cls:=.ref C,dict:=U,data:=.fields #[.ref t,.none,.none,.none,.bool c_,.none]}/\E (.ref e) Z) E s):
  ed M A (raiseStmt env (ar x) none) Q E s:=by
 have W:(ey C::bm).contains (.type "BaseException")=true:=by rw[List.contains_cons,Y,Bool.or_true]
 unfold raiseStmt;refine NN (Oq h (λv Z X=>?_) λ_ _ x=>x);obtain⟨e,t,U,rfl,T,he,S⟩:=X;obtain⟨O,g,d,P,os⟩:=Z
 repeat (first|with_reducible refine P7 he ?_ |with_reducible refine P7 T ?_ |(with_reducible refine wpAny_isSubtype_exc T ?_;rw[W])|wp_step)
 exact wpAny_raiseNew_none R S
end
section
variable {prog:dV}{w:d_}{A:f_}{E:a_->cn->Prop}{s:cn}{env:Env}
variable {nm q:Str}{C N:b'}{bs bm bmB:List a_}{hdct:Bool}{sn:List Str}{sub:List a_}{ab:Bool}{col:Option Bool}{dd:Option b'}{k0 k1 k2 k3 k5:Option a_}{B Bn newId nid initId inN:String}{bmN:List a_}
theorem xP(o:wN Bn newId inN bmN)(z:bmB.contains (.type Bn)=b_)(F:wN B nid initId bmB){mN:Str->Option a_}{x:Str}{y S pos:Pos}{args:List Expr}{fI:b'}{oI:Obj}{Q:Flow->cn->Prop}
  (W:bm.contains (.type "BaseException")=b_) (L:A.handled=none) (P:(oo S (dt args env)).any (·.1)=c_) (m:mN "__init__"=ar (.ref fI)) (H:oI.cls= .type "function")
  (h :ed (er prog w) A (hD (.Name x y) env) (λf U=>f= .ref C/\ed (er prog w) A (evalArgs (.ref C) b_ (oo S (dt args env)) [])
   (λa Z=>a.kw=[]/\a.pos.length<=sizeLine/\Z.heap.get? C=ar (vr nm q C N bs bm hdct sn sub ab col dd k0 k1 k2 k3 k5 newId)/\Z.heap.Ns N mN/\So Z.heap bmB bm/\Z.heap.get? fI=ar oI/\
    ∀h' e,M_ Z.heap h' e (.ref C) a.pos->ed (er prog w) (A.under (.builtin "type.__call__" ⟨.ref C::a.pos,[]⟩)) (call (.ref fI) (.ref e::a.pos)) (λr s'=>r= .none/\
     ∃t I,s'.heap.get? C=ar (vr nm q C N bs bm hdct sn sub ab col dd k0 k1 k2 k3 k5 newId)/\s'.heap.get? e=ar {cls:=.ref C,dict:=I,data:=.fields #[.ref t,.none,.none,.none,.bool c_,.none]}/\E (.ref e) s') E {Z with heap:=h'}) E U) E s):
  ed (er prog w) A (exec (.Raise (ar (.Call (.Name x y) args [] S)) none pos) env) Q E s:=by
 rw[arm_exec_Raise];first
  |refine NN (OM (jc (C:=C) (nm:=nm) (q:=q) (N:=N) (bs:=bs) (bm:=bm) (hdct:=hdct) (sn:=sn) (sub:=sub) (ab:=ab) (col:=col) (dd:=dd) (k0:=k0) (k1:=k1) (k2:=k2) (k3:=k3) (k5:=k5) (newId:=newId) W L (NN (Oq (Rh (Oq h (λf U X=>?_) λ_ _ x=>x)) (λv O Y=>NN (OM (NT Y))) λ_ _ x=>x))))
  |(simp only[evalOpt,Option.map];refine NN (OM (jc (C:=C) (nm:=nm) (q:=q) (N:=N) (bs:=bs) (bm:=bm) (hdct:=hdct) (sn:=sn) (sub:=sub) (ab:=ab) (col:=col) (dd:=dd) (k0:=k0) (k1:=k1) (k2:=k2) (k3:=k3) (k5:=k5) (newId:=newId) W L (NN (Oq (Rh (Oq h (λf U X=>?_) λ_ _ x=>x)) (λv O Y=>NN (OM (NT Y))) λ_ _ x=>x)))))
  |(refine NN (OM (jc (C:=C) (nm:=nm) (q:=q) (N:=N) (bs:=bs) (bm:=bm) (hdct:=hdct) (sn:=sn) (sub:=sub) (ab:=ab) (col:=col) (dd:=dd) (k0:=k0) (k1:=k1) (k2:=k2) (k3:=k3) (k5:=k5) (newId:=newId) W L ?_));refine NN (Oq (Rh (Oq h (λf U X=>?_) λ_ _ x=>x)) (λv O Y=>NN (OM (NT Y))) λ_ _ x=>x))
 obtain⟨rfl,X⟩:=X;unfold callWith;refine NN (O5 (Oq X (λa Z R=>NN (OM ?_)) λ_ _ x=>x));obtain⟨apos,J⟩:=a;obtain⟨G,hlen,p,n,T,K,R⟩:=R;obtain rfl:J=[]:=G;obtain⟨c,g,d,i,os⟩:=Z;simp only[P];refine NN (wpAny_keeperOf_exc p ?_);refine NN (zV (hrest:=hlen) o z F T p n m K H λh' e hm=>Oq (R h' e hm) (λr s' u=>⟨u.1,NN (O5 (wpAny_point (NT ?_)))⟩) λ_ _ x=>x);obtain⟨_,t,I,l,k,j⟩:=u;exact⟨e,t,I,rfl,l,k,j⟩
end
end
end S7
namespace S7
open PySem PySem.Spec PySem.W PyProof.Rows
section
open Builtin Builtin.ObjectAttr
def xQ:List a_->Bool
 | .ref _:: .ref _::r=>r==[.type "ValueError",.type "Exception",.type "BaseException",.type "object"]
 |_=>c_
theorem Cj(e:xQ l=b_):∃a b,l= .ref a:: .ref b::[.type "ValueError",.type "Exception",.type "BaseException",.type "object"]:=by
 unfold xQ at e;split at e
 ·next a b r=>exact⟨a,b,by rw[beq_iff_eq.mp e]⟩
 ·cases e
theorem Ea(Z:a_)(e:xQ l=b_):refuseLoop Z "__setattr__" l=aC ():=by obtain⟨a,b,rfl⟩:=Cj e;rw[refuseLoop_ref,refuseLoop_ref];exact PySem.F.store_ValueError.passes Z
structure ExcS(K:Tg)(C:b'):Prop where
 sa:z4 K (.ref C) "__setattr__"=ar (ar (.builtin "object.__setattr__"))
 ob:Tc K C (.type "object")=ar b_
 cd:∃cd,clsIn K C=ar cd/\cd.hasDict=b_/\xQ cd.mro=b_
section
variable {prog:dV}{w:d_}{A:f_}{E:a_->cn->Prop}{s:cn}{K:Tg}{x C:b'}{o:Obj}{vs:Array a_}{mA:Str->Option a_}{name:Str}{v:a_}{R:SM->cn->Prop}
theorem Eb{Q:Fin->cn->Prop}(c:ExcS K C)(X:K.In s.heap)(J:s.heap.get? x=ar o)(p:o.cls= .ref C)(N:o.data= .fields vs)
  (m:(o.dict=none/\∀n,mA n=none)\/∃d,o.dict=ar d/\d≠x/\s.heap.Ns1 d mA)
  (k:∀h' tk' dx,h'.Ns1 dx (λy=>if y=name then ar v else mA y)->dx≠x->h'.get? x=ar {o with dict:=ar dx}->(o.dict=ar dx\/(o.dict=none/\s.heap.get? dx=none))->
   (∀b o,b≠x->b≠dx->s.heap.get? b=ar o->h'.get? b=ar o)->Q (.done (.ret .none)) {s with heap:=h',toks:=tk'}) (f:Within mA ns:=by within_ways) (a4:ns.length<=sizeLine:=by size_fits):
  ed (er prog w) A (storeInOwnDict (.ref x) (.ref C) (.str name tk) name v b) Q E s:=by
 obtain⟨cd,I,r,_⟩:=c.cd;obtain⟨h,g,d,t,os⟩:=s;obtain⟨oc,l,a0,F⟩:=o;dsimp only at J p N m;subst p N;unfold storeInOwnDict;refine NN (NT ?_);show ed _ _ (ownDictForStores (.ref x)>>=_) _ _ _;unfold ownDictForStores instanceDict;refine NN (NN (wpAny_loadPart J (NN ((looks_clsIn X I).here ?_))));rw[r];simp only[Bool.not_true,j_,if_false];rcases m with⟨hdn,hmA⟩|⟨dx,hdx,hne,hns⟩
 ·have O:l=none:=hdn;subst O;simp only[typeHasDict,Bool.not_true,Bool.or_self,j_,if_false];have Y:(h.push {cls:=.type "dict",data:=.dict #[]}).get? x=ar ⟨.ref C,none,.fields vs,F⟩:=NO _ J;have T:x≠h.objs.size:=Ob (NV J);refine NN (wpAny_alloc' ?_);refine NN (wpAny_update' Y ?_);refine NT ?_;have q:((h.push {cls:=.type "dict",data:=.dict #[]}).update x λo=>{cls:=o.cls,dict:=ar h.objs.size,data:=o.data,slots:=o.slots}).get? h.objs.size
    =ar {cls:=.type "dict",data:=.dict #[]}:=
   (PQ _ _ _ _ T.symm).trans (Heap.get?_push_at rfl rfl)
  have z:((h.push {cls:=.type "dict",data:=.dict #[]}).update x λo=>{cls:=o.cls,dict:=ar h.objs.size,data:=o.data,slots:=o.slots}).Ns h.objs.size (λ_=>none):=
   ⟨_, #[],_,q,rfl,λe he=>absurd he (by simp),λ_=>rfl⟩
  show ed _ _ (storeInDict h.objs.size (.str name tk) name v) _ _ _;unfold storeInDict newKeyGuard;refine NN (NT (NN (wpAny_nsSet1 (Heap.Ns1.of_empty z) λh' Z hs=>?_)));obtain⟨a,u,H,U,S,P⟩:=Z.count (RA name v SC);refine NN (wpAny_lookBehind U (by rw[S];exact pastItsLine_dict (NZ P (by rw[Ou,x',OW];omega))) ?_)
  wp_walk
  refine k h' _ h.objs.size ?_ T.symm ?_ (.inr ⟨rfl,OU (NQ _)⟩) (λb ob G W B=>?_)
  ·obtain⟨o',es,ep,e1,e2,e3,i,j⟩:=Z;exact⟨o',es,ep,e1,e2,e3,i,λy=>by rw[j y];by_cases hy:y=name<;>simp[hy,hmA]⟩
  ·exact(hs.2 x T).trans (Pu _ Y rfl)
  ·exact(hs.2 b W).trans ((PQ _ _ _ _ G).trans (NO _ B))
 ·have L:l=ar dx:=hdx;subst L;refine NT ?_;show ed _ _ (storeInDict dx (.str name tk) name v) _ _ _;unfold storeInDict newKeyGuard;refine NN (NT (NN (wpAny_nsSet1 hns λh' Z hs=>?_)));obtain⟨a,u,H,U,S,P⟩:=Z.count (RA name v f);refine NN (wpAny_lookBehind U (by rw[S];exact pastItsLine_dict (NZ P (by rw[Ou];omega))) ?_)
  wp_walk
  exact k h' _ dx Z hne ((hs.2 x hne.symm).trans J) (.inl rfl) (λb ob _ W B=>(hs.2 b W).trans B)
theorem qJ{Q:Unit->cn->Prop}(c:ExcS K C)(X:K.In s.heap)(N:s.heap.get? x=ar o)(O:o.cls= .ref C)(U:o.data= .fields vs)(r:z4 K (.ref C) name=ar none)
  (H:(o.dict=none/\∀n,mA n=none)\/∃d,o.dict=ar d/\d≠x/\s.heap.Ns1 d mA)
  (t:∀h' Y Z,h'.Ns1 Z (λy=>if y=name then ar v else mA y)->Z≠x->h'.get? x=ar {o with dict:=ar Z}->(o.dict=ar Z\/(o.dict=none/\s.heap.get? Z=none))->
   (∀b o,b≠x->b≠Z->s.heap.get? b=ar o->h'.get? b=ar o)->Q () {s with heap:=h',toks:=Y}) (z:Within mA ns:=by within_ways) (J:ns.length<=sizeLine:=by size_fits):
  ed (er prog w) A (setAttr (.ref x) name v) Q E s:=by
 obtain⟨cd,P,u,L⟩:=c.cd;have W:notCls o=true:=by unfold notCls;rw[U]
 have I:∃S,InstAt s.heap x o C S:=by
  rcases H with⟨hdn,_⟩|⟨Z,hdx,_,⟨S,es,ep,e1,_⟩⟩
  ·exact⟨none,N,O,W,by rw[hdn];trivial⟩
  ·exact⟨ar S,N,O,W,by rw[hdx];exact e1⟩
 obtain⟨S,I⟩:=I;refine set_plain X I c.sa ?_;have T:=PySem.F.store_object;have sub:Looks (er prog w) s.heap (Sz (.ref x) (.type "object")) true:=I.type.andThen (looks_mroIn X c.ob);refine codeAny_call_builtin T.slot.plain T.entry (@check_slot (er prog w) _ _ {s with toks:=s.toks+1} "object.__setattr__" "object" "__setattr__" (.ref x) [.str name s.toks,v] [] _ T.kind T.split sub (T.args (.ref x) (.str name s.toks) v) ?_);have hm:Looks (er prog w) s.heap (mroOf (.ref C)) cd.mro:=(looks_clsIn X P).andThen .now;rw[osa_eq,refuse_eq];refine NN (NN (I.type _ _ _ _ (λ_ _ e=>e) (NN (hm _ _ _ _ (λ_ _ e=>e) ?_))));rw[Ea _ L];refine NT (NN (I.type _ _ _ _ (λ_ _ e=>e) (NN (looks_findIn X r _ _ _ _ (λ_ _ e=>e) (NN (NT ?_))))));exact Eb (s:={s with toks:=s.toks+1}) c X N O U H (λh' Y Z a1 a2 G q B=>t h' Y Z a1 a2 G q B) z J
end
end
end S7
namespace S7
open PySem PySem.Spec PyProof.Rows L2 S3
def ia(C a t:b')(od:Option b'):eg->Prop:=λh=>h.get? a=ar {cls:=.ref C,dict:=od,data:=.fields #[.ref t,.none,.none,.none,.bool c_,.none]}
def jJ(dx:b')(fs:List (Str×V)):eg->Prop:=λh=>∃mA,h.Ns1 dx mA/\(∀f,CT (fs.lookup f) (mA f))/\PySem.Within mA (fs.map (·.1))
theorem Ck{Z:eg}(p:ia C a t od h1)(k:∀o,h1.get? a=ar o->Z.get? a=ar o):ia C a t od Z:=k _ p
theorem Cm{Z:eg}(p:jJ dx fs h1)(k:∀o,h1.get? dx=ar o->Z.get? dx=ar o):jJ dx fs Z:=by obtain⟨mA,⟨o,es,Y,e,r⟩,q⟩:=p;exact⟨mA,⟨o,es,Y,k _ e,r⟩,q⟩
theorem Ec(p:ia C a t od h):cy P w H h a (.ext (ia C a t od)):=⟨p,⟨_,p⟩,λ_ _ q k=>Ck q k⟩
theorem HE(p:jJ dx fs h):cy P w H h dx (.ext (jJ dx fs)):=⟨p,(let ⟨_,⟨o,_,_,e,_⟩,_⟩:=p;⟨o,e⟩),λ_ _ q k=>Cm q k⟩
section
variable {X:Cx}{pins:List (b'×Obj)}{σ:L2.St}{H:Hp}{s:cn}{h':eg}{t':Nat}
theorem Inv.laidG(I:L2.Inv X pins σ H s)(k:∀b u,s.heap.get? b=ar u->h'.get? b=ar u)(W:s.heap.get? a=none)(Y:cy X.prog X.w (upd H a o) h' a o):L2.Inv X pins σ (upd H a o) {s with heap:=h',toks:=t'}:=by
 have Z:H a=none:=kh.gone I.hok W;have ne:∀b u,s.heap.get? b=ar u->b≠a:=λb u q=>jM q W;refine I.un (t':=t') ⟨λb u q _ _ _=>k b u q,λb u q _ _ _=>⟨u.slots,k b u q⟩,λb u q n _=>by rw[aO (ne b u q)];exact n,λb u q _=>⟨u,k b u q⟩,λb xs q=>by rw[aO (a8 q Z)];exact q,λb u xs q=>by rw[aO (a8 q Z)];exact q,λb U q=>⟨#[],by rw[aO (a8 q Z),q];simp⟩⟩ λb u e=>?_;by_cases hb:b=a
 ·subst hb;rw[bf]at e;cases e;exact Y
 ·rw[aO hb]at e;exact(I.hok b u e).stay (λc v _ q=>k c v q) (λc q=>by rw[aO (a8 q Z)];exact q) λc xs q=>by rw[aO (a8 q Z)];exact q
theorem Inv.write2(I:L2.Inv X pins σ H s)(R:H a=ar (.ext φ))(Z:(∃ ψ,H b=ar (.ext ψ))\/s.heap.get? b=none)(k:∀c v,c≠a->c≠b->s.heap.get? c=ar v->h'.get? c=ar v)(T:∃v,h'.get? a=ar v)(S:∃v,h'.get? b=ar v)
  (Q:b≠a) (O:∀H',cy X.prog X.w H' h' a o) (P:∀H',cy X.prog X.w H' h' b u):L2.Inv X pins σ (upd (upd H b u) a o) {s with heap:=h',toks:=t'}:=by
 have U:∀c v,H c=ar v->(∀ ψ,v≠ .ext ψ)->c≠a/\c≠b:=λc v e n=>by
  refine⟨λz=>?_,λz=>?_⟩
  ·subst z;rw[R]at e;cases e;exact n _ rfl
  ·subst z;rcases Z with⟨ψ,Z⟩|Z
   ·rw[Z]at e;cases e;exact n _ rfl
   ·rw[kh.gone I.hok Z]at e;cases e
 have free:∀c v,s.heap.get? c=ar v->H c=none->c≠a/\c≠b:=λc v q n=>by
  refine⟨λz=>?_,λz=>?_⟩
  ·subst z;rw[R]at n;cases n
  ·subst z;rcases Z with⟨ψ,Z⟩|Z
   ·rw[Z]at n;cases n
   ·rw[Z]at q;cases q
 have up:∀c v,H c=ar v->(∀ ψ,v≠ .ext ψ)->upd (upd H b u) a o c=ar v:=λc v e n=>by obtain⟨Y,W⟩:=U c v e n;rw[aO Y,aO W];exact e
 refine I.un (t':=t') ⟨λc v q n _ _=>k c v (free c v q n).1 (free c v q n).2 q,λc v q n _ _=>⟨v.slots,k c v (free c v q n).1 (free c v q n).2 q⟩,λc v q n _=>by rw[aO (free c v q n).1,aO (free c v q n).2];exact n,λc v q _=>?_,λc xs q=>up c _ q (by intro _ z;cases z),λc w xs q=>up c _ q (by intro _ z;cases z),λc N q=>⟨#[],by rw[up c _ q (by intro _ z;cases z)];simp⟩⟩ λc v e=>?_
 ·by_cases Y:c=a
  ·subst Y;exact T
  ·by_cases W:c=b
   ·subst W;exact S
   ·exact⟨v,k c v Y W q⟩
 ·by_cases Y:c=a
  ·subst Y;rw[bf]at e;cases e;exact O _
  ·rw[aO Y]at e;by_cases W:c=b
   ·subst W;rw[bf]at e;cases e;exact P _
   ·rw[aO W]at e;have own:∀d,H d=ar (.own c)->d≠a/\d≠b:=λd q=>U d _ q (by intro _ z;cases z);refine(I.hok c v e).stay (λd w hd q=>?_) (λd q=>up d _ q (by intro _ z;cases z)) λd xs q=>up d _ q (by intro _ z;cases z);rcases hd with rfl|hd
    ·exact k _ w Y W q
    ·exact k d w (own d hd).1 (own d hd).2 q
end
section
variable {X:Cx}{o value:Expr}{ta tv:TE}{f:Str}{pos pos':Pos}
def Lf(K:cC)(ta tv:TE)(f:Str):TS:=λD σ H=>tv σ H λy H1=>ta σ H1 λx H2=>∃p C t,x= .ref p/\ExcS K C/\G_ K (.ref C) f=ar none/\
  ((H2 p=ar (.ext (ia C p t none))/\∀dx,H2 dx=none->dx≠p->D.nx σ (upd (upd H2 dx (.ext (jJ dx [(f,y)]))) p (.ext (ia C p t (ar dx)))))\/
   (∃dx fs,H2 p=ar (.ext (ia C p t (ar dx)))/\H2 dx=ar (.ext (jJ dx fs))/\dx≠p/\fs.lookup f=none/\fs.length<=100/\D.nx σ (upd (upd H2 dx (.ext (jJ dx (fs++[(f,y)])))) p (.ext (ia C p t (ar dx))))))
theorem qK{α:Type}{g f:Str}{y:α}:∀{fs:List (Str×α)},fs.lookup f=none->(fs++[(f,y)]).lookup g=if g=f then ar y else fs.lookup g
 |[],_=>by
  show(match g==f with|true=>ar y|false=>none)=_;by_cases h:g=f
  ·subst h;simp
  ·rw[if_neg h,Qq h];rfl
 | (a,b)::r,h=>by
  rw[Ow]at h;by_cases hf:f=a
  ·subst hf;simp at h
  ·rw[Qq hf]at h;rw[List.cons_append,Ow,Ow,qK (fs:=r) h];by_cases hg:g=a
   ·subst hg;have Z:¬ g=f:=λz=>hf z.symm;simp[Z]
   ·rw[Qq hg]
theorem AV(m:PE X o ta)(k:PE X value tv)(hs:nC value (ar (.Attribute o f pos')) pos.line X.env=aC c_):PS X (.Assign [.Attribute o f pos'] value pos) (Lf X.K ta tv f):=by
 intro pins s σ H D I h;refine plainObj_wpAny_Assign_Attribute (eM (k pins s σ H _ I h) λu s1 ⟨y,H1,I1,ry,q⟩=>eM (m pins s1 σ H1 _ I1 q) λr s2 ⟨x,H2,I2,rx,p,C,t,ex,c,hf,q2⟩=>?_) hs;subst ex;obtain rfl:r=ey p:=rx;rcases q2 with⟨hp,q⟩|⟨Z,fs,hp,hd,W,hl,hlen,q⟩
 ·have G:s2.heap.get? p=ar {cls:=.ref C,dict:=none,data:=.fields #[.ref t,.none,.none,.none,.bool c_,.none]}:=(I2.hok p _ hp).1;refine qJ (mA:=λ_=>none) (ns:=[]) c I2.kIn G rfl rfl hf (.inl ⟨rfl,λ_=>rfl⟩) (λh' S Z T W Y U A=>?_) SC (by simp);rcases U with U|⟨_,hnew⟩
  ·cases U
  have N:ia C p t (ar Z) h':=Y;have P:jJ Z [(f,y)] h':=⟨_,T,λg=>by
   show CT (match g==f with|true=>ar y|false=>none) _;by_cases hg:g=f
   ·subst hg;simp;exact ry
   ·rw[Qq hg,if_neg hg];exact trivial,RA f u SC⟩
  obtain⟨L,⟨n,es,l,e1,_⟩,_⟩:=id P;have B:=Inv.write2 (t':=S) (a:=p) (b:=Z) (o:=.ext (ia C p t (ar Z))) (u:=.ext (jJ Z [(f,y)])) I2 hp (.inr hnew) (λc v J F q=>A c v J F q) ⟨_,Y⟩ ⟨_,e1⟩ W (λ_=>Ec N) (λ_=>HE P);exact⟨σ,_,B,q Z (kh.gone I2.hok hnew) W⟩
 ·have G:s2.heap.get? p=ar {cls:=.ref C,dict:=ar Z,data:=.fields #[.ref t,.none,.none,.none,.bool c_,.none]}:=(I2.hok p _ hp).1;obtain⟨mA,R,Q,hw⟩:=(I2.hok Z _ hd).1;refine qJ (mA:=mA) (ns:=fs.map (·.1)) c I2.kIn G rfl rfl hf (.inr ⟨Z,rfl,W,R⟩) (λh' S O T w Y U A=>?_) hw (by rw[NM,OW];omega);have E:Z=O:=by
   rcases U with U|⟨U,_⟩
   ·exact Oj U
   ·cases U
  subst E;have N:ia C p t (ar Z) h':=Y;have P:jJ Z (fs++[(f,y)]) h':=⟨_,T,λg=>by
   rw[qK hl];by_cases hg:g=f
   ·subst hg;simp;exact ry
   ·rw[if_neg hg,if_neg hg];exact Q g,by
   have:=RA f u hw;intro z j;have:=this z j;simp only[List.map_append,Re,List.map_nil,List.mem_append,eu,ee,or_false]at this⊢;exact this.symm⟩
  obtain⟨L,⟨n,es,l,e1,_⟩,_⟩:=id P;have B:=Inv.write2 (t':=S) (a:=p) (b:=Z) (o:=.ext (ia C p t (ar Z))) (u:=.ext (jJ Z (fs++[(f,y)]))) I2 hp (.inl ⟨_,hd⟩) (λc v J F q=>A c v J F q) ⟨_,Y⟩ ⟨_,e1⟩ W (λ_=>Ec N) (λ_=>HE P);exact⟨σ,_,B,q⟩
end
end S7
section
namespace S7
open PySem PySem.Spec PyProof.Rows L2 S3
theorem GH{K:cC}{Z:Str->Option a_}(X:K.In h)(G:h.Ns N Z)(e:r7 K N n=ar (ar v)):Z n=ar v:=by
 obtain⟨o,es,U,Y,hd,_,hf⟩:=G;unfold r7 at e;split at e
 ·rename_i c d es' n' sl q
  have:=X _ _ q;rw[Y]at this;cases this;cases hd;split at e
  ·rename_i en he
   cases e;rw[<-hf];unfold nsFind findBy;rw[<-Array.find?_toList,he];rfl
  ·split at e<;>cases e
 ·cases e
def m7(K:cC)(C f:b'):Bool:=match K.lookup C with
 |some ⟨.type "type",_,.cls cd,sl⟩=>(match cd.mro,sl.toList with
  | .ref C'::bm,[_,_,_,_,ar (.builtin n),_]=>C'==C && n=="ValueError.__new__" && !cd.hasDel && W.tailIn K Ka bm && W.nsOkIn K cd.ns && r7 K cd.ns "__init__"==ar (ar (.ref f)) && cd.hasDict && xQ cd.mro
  |_,_=>c_) && (G_ K (.ref C) "__setattr__"==ar (ar (.builtin "object.__setattr__"))) && (match K.lookup f with|some o=>o.cls== .type "function"|none=>c_)
 |_=>c_
theorem uH{K:cC}(X:K.In h)(c:ExcC K C)(q:m7 K C f=b_):ExcS K C/\(∃o,K.lookup f=ar o/\o.cls= .type "function")/\∃bm N nm qn bs hdct sn sub ab col dd k0 k1 k2 k3 k5 mN,
  h.get? C=ar (vr nm qn C N bs bm hdct sn sub ab col dd k0 k1 k2 k3 k5 "ValueError.__new__")/\h.Ns N mN/\mN "__init__"=ar (.ref f)/\So h Ka bm:=by
 unfold m7 at q;split at q
 case h_2=>cases q
 case h_1 dd cd P ho=>
 simp only[h_,beq_iff_eq]at q;obtain⟨⟨q,Q⟩,Y⟩:=q;split at q
 case h_2=>cases q
 case h_1 C' bm k0 k1 k2 k3 n k5 hm hs=>
 simp only[h_,beq_iff_eq,C_]at q;obtain⟨⟨⟨⟨⟨⟨⟨I,en⟩,Z⟩,J⟩,U⟩,O⟩,R⟩,S⟩:=q;subst I en;have T:Td K C'=ar cd:=by unfold Td;rw[ho]
 refine⟨⟨Q,c.ob,cd,T,R,S⟩,?_,?_⟩
 ·split at Y
  ·next o hf=>exact⟨o,hf,beq_iff_eq.mp Y⟩
  ·cases Y
 rcases cd with⟨nm,bs,mro,ns,qn,hd,sn,sub,ab,col,del⟩;dsimp only at hm Z U O;subst hm Z;obtain rfl:P= #[k0,k1,k2,k3,ar (.builtin "ValueError.__new__"),k5]:=by rcases P with⟨l⟩;simp only at hs;rw[hs]
 have L:h.Ns ns (h.nsMap ns):=.of_isNs (W.isNs_of_in X U);exact⟨bm,ns,nm,qn,bs,hd,sn,sub,ab,col,dd,k0,k1,k2,k3,k5,_,X _ _ ho,L,GH X L O,W.tail_of_in X J⟩
def LY(C:b'):Sp:=λvs H Q _=>∃e t v1 v2,vs=[.ref e,v1,v2]/\H e=ar (.ext (ia C e t none))/\∀dx,H dx=none->dx≠e->Q .non (upd (upd H dx (.ext (jJ dx [("many",v1),("most",v2)]))) e (.ext (ia C e t (ar dx))))
theorem xR(h:a≠b):upd (upd H a o) b u=upd (upd H b u) a o:=by
 funext c;unfold upd;by_cases h1:c=b
 ·by_cases h2:c=a
  ·exact absurd (h2.symm.trans h1) h
  ·rw[if_pos h1,if_neg h2,if_pos h1]
 ·rw[if_neg h1];by_cases h2:c=a
  ·rw[if_pos h2,if_pos h2]
  ·rw[if_neg h2,if_neg h2,if_neg h1]
theorem GI{P:dV}{w:d_}{K:cC}{T:Str->Option a_}{base:eg}{C f:b'}{L:eb}{st:n_}{G y n z p v r u:Pos}(F:Fun K "__init__" "TooGreat.__init__" st f L)(N:ExcS K C)(c:ExcC K C)
  (B:FnScope ["self","many","most"] ["self","many","most"] (ai st)) (O:∀x∈(["self","many","most"]:List Str),(ai st).names.lookup x=ar .local)
  (I:dQ st=[.Assign [.Attribute (.Name "self" G) "many" y] (.Name "many" n) z,.Assign [.Attribute (.Name "self" p) "most" v] (.Name "most" r) u]):
  FnOk P w K T base (qE P w) 1 f L ["self","many","most"] (LY C):=by
 obtain⟨k,l,kV,doc,pm,an,X,ct,J,rfl,o,S⟩:=F.ex;refine Hu o S B (λvs H Q E ⟨_,_,_,_,h,_⟩=>by rw[h];rfl) λA outer s H vs Q E m h=>?_;rw[I];have v0:Hs (pG (qE P w) P w K T base ["self","many","most"] "TooGreat.__init__" (ai st) f X A outer s H E).env.scope "self":=.inl (O "self" (by simp));have v1:Hs (pG (qE P w) P w K T base ["self","many","most"] "TooGreat.__init__" (ai st) f X A outer s H E).env.scope "many":=.inl (O "many" (by simp));have v2:Hs (pG (qE P w) P w K T base ["self","many","most"] "TooGreat.__init__" (ai st) f X A outer s H E).env.scope "most":=.inl (O "most" (by simp));refine⟨_,w6 (AV (pv 0 rfl v0) (pv 1 rfl v1) rfl) (Ax (AV (pv 0 rfl v0) (pv 2 rfl v2) rfl)),?_⟩;obtain⟨e,t,U,R,rfl,he,q⟩:=h;refine⟨U,rfl,.ref e,rfl,e,C,t,rfl,N,c.mf,.inl ⟨he,λZ hd Y=>?_⟩⟩;refine⟨R,rfl,.ref e,rfl,e,C,t,rfl,N,c.ms,.inr ⟨Z,[("many",U)],bf,by rw[aO Y];exact bf,Y,rfl,by simp,?_⟩⟩;have:=q Z hd Y;have e2:upd (upd (upd (upd H Z (.ext (jJ Z [("many",U)]))) e (.ext (ia C e t (ar Z)))) Z (.ext (jJ Z [("many",U),("most",R)]))) e (.ext (ia C e t (ar Z)))=upd (upd H Z (.ext (jJ Z [("many",U),("most",R)]))) e (.ext (ia C e t (ar Z))):=by rw[xR Y.symm,u7,u7]
 show Q .non _;rw[<-e2]at this;exact this
section
variable {X:Cx}{Ek:XK}
theorem Inv.forget{H:Hp}(I:L2.Inv X pins σ (upd (upd H dx (.ext (jJ dx fs))) e (.ext φ)) s)(P:H dx=none)(R:H e=none)(U:dx≠e):
  L2.Inv X pins σ (upd H dx (.xd fs)) s:=by
 have Y:∀b u,upd (upd H dx (.ext (jJ dx fs))) e (.ext φ) b=ar u->(∀ χ,u≠ .ext χ)->upd H dx (.xd fs) b=ar u:=λb u q n=>by
  by_cases W:b=e
  ·subst W;rw[bf]at q;cases q;exact absurd rfl (n _)
  ·rw[aO W]at q;by_cases Z:b=dx
   ·subst Z;rw[bf]at q;cases q;exact absurd rfl (n _)
   ·rw[aO Z]at q⊢;exact q
 have T:∀b,upd (upd H dx (.ext (jJ dx fs))) e (.ext φ) b=none->upd H dx (.xd fs) b=none:=λb q=>by
  by_cases W:b=e
  ·subst W;rw[bf]at q;cases q
  ·rw[aO W]at q;by_cases Z:b=dx
   ·subst Z;rw[bf]at q;cases q
   ·rw[aO Z]at q⊢;exact q
 refine I.un (t':=s.toks) ⟨λb o q _ _ _=>q,λb o q _ _ _=>⟨o.slots,q⟩,λb o _ n _=>T b n,λb o q _=>⟨o,q⟩,λb xs q=>Y b _ q (by intro _ z;cases z),λb o u q=>Y b _ q (by intro _ z;cases z),λb Q q=>⟨#[],by rw[Y b _ q (by intro _ z;cases z)];simp⟩⟩ λb u q=>?_;by_cases Z:b=dx
 ·subst Z;rw[bf]at q;cases q;have S:=I.hok b (.ext (jJ b fs)) (by rw[aO U];exact bf);obtain⟨mA,W,Z,_⟩:=S.1;exact⟨mA,W,Z⟩
 ·rw[aO Z]at q;have W:b≠e:=λz=>by rw[z,R]at q;cases q
  exact(I.hok b u (by rw[aO W,aO Z];exact q)).stay (λ_ _ _ z=>z) (λc z=>Y c _ z (by intro _ z;cases z)) λc xs z=>Y c _ z (by intro _ z;cases z)
def Ed:List D->M Out
 |[a,b]=>M.raise (.exc "TooGreat" [a,b])
 |_=>M.fail
abbrev oR(ms:aE->M (List D)):cL:=λρ=>do let ds<-ms ρ;Ed ds
theorem Cn(L:Leaves X Ek)(hc:X.calm=b_)(eK:su X.K=b_)(a3:r7 X.K e_ "TooGreat"=ar (ar (.ref C)))(a0:m7 X.K C f=b_)
  (F:FnOk X.prog X.w X.K X.mg X.base (qE X.prog X.w) k f fd ["self","many","most"] (LY C)) (hb:Binds X.K fd ["self","many","most"] []) (hr:Room (k+1) X.A)
  (ha:SA X (zP X.K Ek) (e::es) ms) (hg:Gl X "TooGreat":=by rfl)
  (he:dt (e::es) X.env=(c_,hD e X.env)::dt es X.env:=by rfl) (b:(oo cpos (dt es X.env)).any (·.1)=false:=by rfl):
  SS X (zP X.K Ek) (.Raise (ar (.Call (.Name "TooGreat" np) (e::es) [] cpos)) none pos) (oR ms):=by
 intro pins s σ H T I h;obtain⟨ι,S,ρ,rep,re,c⟩:=h;obtain⟨R,j⟩:=zQ eK (show("TooGreat":Str)∈g0 by decide);have eC:R=C:=by have:=j.ns.symm.trans a3;cases this;rfl
 subst eC;obtain⟨cS,⟨oI,a,b1⟩,bm,N,nm,qn,bs,hdct,sn,sub,ab,col,dd,k0,k1,k2,k3,k5,mN,hC,hN,hi,tl⟩:=uH I.mod.kin j.ck a0;have hm:X.mg "TooGreat"=ar (.ref R):=Pk I.mod.kin I.mod.glob j.ns;refine xP (k5:=k5) (k3:=k3) (k2:=k2) (k1:=k1) (k0:=k0) (nm:=nm) (q:=qn) (C:=R) (N:=N) (bm:=bm) (bs:=bs) (hdct:=hdct) (sn:=sn) (sub:=sub) (ab:=ab) (col:=col) (dd:=dd) (fI:=f) (oI:=oI) Pp (by decide) Pp (mN:=mN) (tl.hasType PySem.F.excBase_ValueError.hasBase) (I.ok.hd hc) (by rw[he];show(c_||(oo cpos (dt es X.env)).any (·.1))=c_;rw[b];rfl) hi b1 (rl I hg hm ⟨rfl,?_⟩ (by decide));have G:=ha cpos pins s σ H _ I ⟨ι,S,ρ,rep,re,az (av c) λds U S1 Q e1 rep1 c1 vs B=>(⟨U,S1,ds,rep1,B,c1⟩:∃U S1 ds,Rep X.K U Q S1/\RelDs X.K U Q ds vs/\cont X.K (zP X.K Ek) (Ed ds) U S1 Q _)⟩;rw[he]at G⊢;refine QL (Oq G (λus s2 a5=>?_) λ_ _ z=>z);obtain⟨vs,Q,o,rv,U,S1,ds,rep1,B,c1⟩:=a5
 match ds,B,c1 with
 |[],B,c1=>exact(au c1).elim
 |[_],B,c1=>exact(au c1).elim
 |_::_::_::_,B,c1=>exact(au c1).elim
 | [da,db],B,c1=>
  obtain⟨y,ws,rfl,ra,r2⟩:=B.cons_inv;obtain⟨p,d1,rfl,rb,r3⟩:=r2.cons_inv;cases r3.nil_inv;have hlen:us.length=2:=rv.length.symm;refine⟨rfl,?_,o.bk _ _ hC,hN.keeps o.bk,tl.keeps o.bk,o.bk _ _ (I.mod.kin _ _ a),λh' Z hm=>?_⟩
  ·show us.length<=sizeLine;rw[hlen,OW];decide
  ·obtain⟨t,h1,h2,h3⟩:=hm.there;have l:Q Z=none:=kh.gone o.hok hm.new;have g:L2.Inv X pins σ (upd Q Z (.ext (ia R Z t none))) {s2 with heap:=h'}:=Inv.laidG (t':=s2.toks) o hm.keeps hm.new (Ec h1);have a4:LY R [.ref Z,y,p] (upd Q Z (.ext (ia R Z t none))) (λv H'=>v= .non/\∃Y,upd Q Z (.ext (ia R Z t none)) Y=none/\Y≠Z/\H'=upd (upd (upd Q Z (.ext (ia R Z t none))) Y (.ext (jJ Y [("many",y),("most",p)]))) Z (.ext (ia R Z t (ar Y)))) Ek:=
    ⟨Z,t,y,p,rfl,bf,λY hd P=>⟨rfl,Y,hd,P,rfl⟩⟩
   have a6:bJ [V.ref Z,y,p] (ey Z::us):=.cons rfl rv;refine RG (Qj (F.run _ X.stack _ _ ⟨ey Z::us,[]⟩ (ey Z::us) _ _ Ek (hr.make R us []) (g.env0.make R us []) ?_ a6 a4) λr s' J=>?_)
   ·have:=hb {s2 with heap:=h'} (ey Z::us) g.kIn (by simp[hlen]);rw[Oi]at this;exact this
   ·cases r with
    |error x=>exact L.pass pins σ _ _ x s' g J
    | ok fl=>
     cases fl with
     |next=>exact ke J
     |brk=>exact ke J
     |cont=>exact ke J
     | ret u=>
      obtain⟨v,H',i,a9,ev,Y,n,P,rfl⟩:=g.after J;subst ev;have O:Q Y=none:=by rw[aO P]at n;exact n
      have e2:upd (upd (upd Q Z (.ext (ia R Z t none))) Y (.ext (jJ Y [("many",y),("most",p)]))) Z (.ext (ia R Z t (ar Y)))=upd (upd Q Y (.ext (jJ Y [("many",y),("most",p)]))) Z (.ext (ia R Z t (ar Y))):=by rw[xR P.symm,u7]
      rw[e2]at i;have E:s'.heap.get? Z=ar {cls:=.ref R,dict:=ar Y,data:=.fields #[.ref t,.none,.none,.none,.bool c_,.none]}:=(i.hok Z _ bf).1;have I4:=Inv.forget i O l P;refine⟨a9,t,ar Y,i.bk _ _ hC,E,?_⟩;obtain⟨r',S',e',q'⟩:=c1;cases e';have m:=o.base;rw[L.ex]at m;refine L.new I4 E rfl rfl rfl rfl (by rw[aO (lx P)];exact l) (Un.gone m (by simp) hm.new) ?_;have d:Ext U Q U (upd Q Y (.xd [("many",y),("most",p)])):=iI O;exact q' U _ d (kL rep1 O) _ _ ⟨"TooGreat",[da,db],R,rfl,j.ns,rfl,.inr ⟨Y,_,rfl,bf,rfl,.cons (ra.later rep1 d) (.cons (rb.later rep1 d) .nil)⟩⟩
end
end S7
end
namespace S7
open PySem PySem.Spec PyProof.Rows L2 S3
section
variable {X:Cx}{E:XD}{pins:List (b'×Obj)}{σ:L2.St}{H:Hp}{s:cn}
end
section
variable {X:Cx}{E:XD}{st:n_}{m:TM}{i:Nat}
theorem RelE.all{K:cC}{U Z:List b'}{H Y:Hp}{n:Nat}(T:∀e v,gF n e=b_->RelD K U H e v->RelD K Z Y e v):
  ∀{ρ:aE} {σ:L2.St},RelE K U H ρ σ->(∀e,ar e∈ρ->gF n e=b_)->RelE K Z Y ρ σ
 |[],_,h,_=>by cases h;exact .nil
 |_::ρ,_,.cons h t,c=>.cons (λd' z=>by obtain⟨v,e1,e2⟩:=h _ z;exact⟨v,e1,T _ v (c d' (by rw[z];exact Ol ..)) e2⟩) (RelE.all T t λe z=>c e (N7 _ z))
theorem RelE.swap{K:cC}{T Z:List b'}{H Y:Hp}{n:Nat}{d u:D}(S:∀v,RelD K T H d v->RelD K Z Y u v)(U:∀e v,gF n e=b_->RelD K T H e v->RelD K Z Y e v):
  ∀{ρ:aE} {i:Nat} {σ:L2.St},RelE K T H (ρ.set i (ar d)) σ->(∀e,ar e∈ρ->gF n e=b_)->RelE K Z Y (ρ.set i (ar u)) σ
 |[],_,_,h,_=>by cases h;exact .nil
 |_::ρ,0,_,.cons h t,c=>.cons (λd' z=>by cases z;obtain⟨v,e1,e2⟩:=h _ rfl;exact⟨v,e1,S v e2⟩) (RelE.all U t λe z=>c e (N7 _ z))
 |_::ρ,i+1,_,.cons h t,c=>.cons (λd' z=>by obtain⟨v,e1,e2⟩:=h _ z;exact⟨v,e1,U _ v (c d' (by rw[z];exact Ol ..)) e2⟩) (RelE.swap S U (ρ:=ρ) (i:=i) t λe z=>c e (N7 _ z))
theorem ky(h:SS X E st (cb i m)):SS X E st (cb i (aL m)):=by
 intro pins s σ H T I L;obtain⟨Y,S,ρ,rep,re,r,G,B,k⟩:=L;have Z:(iF (m ρ)>>=λd=>(aC (Out.nx (ρ.set i (ar d))):M Out)) S=ar (r,G):=B;have C:∀(c:M D),(c>>=λd=>(aC (Out.nx (ρ.set i (ar d))):M Out)) S=(match c S with|some (.ok d,S1)=>ar (.ok (Out.nx (ρ.set i (ar d))),S1)|some (.ex x,S1)=>ar (.ex x,S1)|none=>none):=λc=>by
  show M.bnd c _ S=_;unfold M.bnd;cases c S with
  |none=>rfl
  |some p=>obtain⟨r,S1⟩:=p;cases r<;>rfl
 rw[C]at Z;unfold iF at Z;cases q:m ρ S with
 |none=>rw[q]at Z;cases Z
 | some p=>
  obtain⟨l,N⟩:=p;rw[q]at Z;have O:cb i m ρ S=_:=C (m ρ);rw[q]at O;cases l with
  |ex x=>
   cases Z;exact h pins s σ H T I ⟨Y,S,ρ,rep,re,.ex x,_,O,k⟩
  | ok d=>
   dsimp only at Z;by_cases hl:N.length<=S.length
   ·rw[if_pos hl]at Z;cases Z;exact h pins s σ H T I ⟨Y,S,ρ,rep,re,_,_,O,k⟩
   ·rw [if_neg hl]at Z;by_cases hk:qF S N
    ·rw [if_pos hk]at Z;cases z:m6 S.length (FI N S.length 60) d with
     |none=>rw[z]at Z;cases Z
     | some u=>
      rw[z]at Z;cases Z;refine eM (h pins s σ H {nx:=λU J=>∃P:List b',∀os,T.nx U (qG P os J),rt:=λ_ _=>False} I ⟨Y,S,ρ,rep,re,_,_,O,λR J x W U F=>?_⟩) λf s' hf=>?_
      ·refine⟨R.drop Y.length,λos=>?_⟩;obtain⟨x2,rep2⟩:=xJ rep x W hk os;have Q:Rep X.K Y (qG (R.drop Y.length) os J) (N.take S.length):=by rw[<-rep.len];exact rep2
       have L:R.take Y.length=Y:=by obtain⟨more,rfl⟩:=x.ids;simp
       refine k Y _ x2 Q U ?_;refine RelE.swap (n:=Y.length) (d:=d) (u:=u) (λv w=>?_) (λe v c r=>?_) F λe z=>?_
       ·have:=zR (n:=Y.length) (os:=os) (λk us a=>by rw[rep.len];exact AS W 60 k us a) W.nd w (by rw[rep.len];exact z);rw[L]at this;exact this
       ·have:=RelD.down (n:=Y.length) (os:=os) r c;rw[L]at this;exact this
       ·obtain⟨j,t⟩:=List.getElem?_of_mem z;obtain⟨v,_,r⟩:=re.get t;exact r.cl
      ·cases f with
       |next=>
        obtain⟨U,J,y,P,o⟩:=hf;obtain⟨os,A⟩:=Inv.fz y P;exact⟨U,_,A,o os⟩
       |ret v=>obtain⟨_,_,_,_,_,z⟩:=hf;exact z.elim
       |brk=>obtain⟨_,_,_,z⟩:=hf;exact z.elim
       |cont=>obtain⟨_,_,_,z⟩:=hf;exact z.elim
    ·rw[if_neg hk]at Z;cases Z
end
def Lg:n_->n_
 | .ClassDef _ _ _ (b::_) .. =>b
 |s=>s
structure GrX(P:dV)(w:d_)(K:cC)(mg:Str->Option a_)(base:eg):Prop where
 ex:∃C f fd,r7 K e_ "TooGreat"=ar (ar (.ref C))/\m7 K C f=b_/\FnOk P w K mg base (qE P w) 1 f fd ["self","many","most"] (LY C)/\Binds K fd ["self","many","most"] []
theorem Ee{P:dV}{w:d_}{K:cC}{E:Str->Option a_}{base h:eg}{C f:b'}{S:eb}{st:n_}{J G z H L A Q R:Pos}(F:Fun K "__init__" "TooGreat.__init__" st f S)(X:K.In h)(B:su K=b_)(Z:r7 K e_ "TooGreat"=ar (ar (.ref C)))(Y:m7 K C f=b_)
  (I:FnScope ["self","many","most"] ["self","many","most"] (ai st)) (O:∀x∈(["self","many","most"]:List Str),(ai st).names.lookup x=ar .local) (U:Binds K S ["self","many","most"] [])
  (N:dQ st=[.Assign [.Attribute (.Name "self" J) "many" G] (.Name "many" z) H,.Assign [.Attribute (.Name "self" L) "most" A] (.Name "most" Q) R]):GrX P w K E base:=by
 obtain⟨y,T⟩:=zQ B (show("TooGreat":Str)∈g0 by decide);have:=T.ns.symm.trans Z;cases this;exact⟨C,f,S,Z,Y,GI F (uH X T.ck Y).1 T.ck I O N,U⟩
section
variable {X:Cx}{Ek:XK}
theorem xS(L:Leaves X Ek)(U:X.calm=b_)(O:su X.K=b_)(Q:GrX X.prog X.w X.K X.mg X.base)(Y:Room 2 X.A)
  (T:SA X (zP X.K Ek) (e::es) ms) (N:Gl X "TooGreat":=by rfl)
  (J:dt (e::es) X.env=(c_,hD e X.env)::dt es X.env:=by rfl) (Z:(oo cpos (dt es X.env)).any (·.1)=false:=by rfl):
  SS X (zP X.K Ek) (.Raise (ar (.Call (.Name "TooGreat" np) (e::es) [] cpos)) none pos) (oR ms):=by
 obtain⟨C,f,fd,S,P,W,R⟩:=Q.ex;exact Cn L U O S P W R Y T N J Z
end
theorem DefX.none{P:dV}{w:d_}{K:cC}{X:Str->Option a_}{base:eg}{k:Nat}{x qual:Str}{st:n_}{f:b'}{Z:eb}{Y:List Str}(F:Fun K x qual st f Z)(T:X x=ar (.ref f))(U:Binds K Z Y []):DefX P w K X base k x Y (λ_=>M.fail):=
 ⟨f,Z,⟨λvs H Q E ⟨_,_,_,_,_,h⟩=>(au h).elim,λA outer s H args us vs Q E _ _ _ _ ⟨_,_,_,_,_,h⟩=>(au h).elim⟩,T,F.kp,U⟩
def MV(K:cC):Bool:=g0.all λn=>match r7 K e_ n with
 |some (ar (.ref C))=>(match Td K C with|some cd=>cd.hasDict|none=>b_)
 |_=>b_
section
variable {X:Cx}{E:XD}
end
end S7
namespace S3
open PySem PySem.Spec PyProof.Rows L2 S4
mutual
theorem zW:∀d,gF n d=b_->m6 n g d=ar d
 | .lst k,h=>by unfold gF at h;unfold m6;rw[if_pos (OE h)]
 | .tup ds,h=>by unfold gF at h;unfold m6;rw[jN ds h];rfl
 | .ro ds,h=>by unfold gF at h;unfold m6;rw[jN ds h];rfl
 | .fz ds,h=>by unfold gF at h;unfold m6;rw[jN ds h];rfl
 | .fn _ _ _ ds _,h=>by unfold gF at h;unfold m6;rw[jN ds h];rfl
 | .exc _ ds,h=>by unfold gF at h;unfold m6;rw[jN ds h];rfl
 | .non,_=>by unfold m6;rfl
 | .bl _,_=>by unfold m6;rfl
 | .int _,_=>by unfold m6;rfl
 | .str _,_=>by unfold m6;rfl
 | .emp,_=>by unfold m6;rfl
theorem jN:∀ds,df n ds=b_->lN n g ds=ar ds
 |[],_=>by unfold lN;rfl
 |d::ds,h=>by
  unfold df at h;rw[OA]at h;unfold lN;rw[zW d h.1,jN ds h.2]
end
mutual
theorem Ef(Z:m<=n):∀d,gF m d=b_->gF n d=b_
 | .lst k,h=>by unfold gF at h⊢;exact N1 (Oe (OE h) Z)
 | .tup ds,h=>by unfold gF at h⊢;exact lb Z ds h
 | .ro ds,h=>by unfold gF at h⊢;exact lb Z ds h
 | .fz ds,h=>by unfold gF at h⊢;exact lb Z ds h
 | .fn _ _ _ ds _,h=>by unfold gF at h⊢;exact lb Z ds h
 | .exc _ ds,h=>by unfold gF at h⊢;exact lb Z ds h
 | .non,_=>by unfold gF;rfl
 | .bl _,_=>by unfold gF;rfl
 | .int _,_=>by unfold gF;rfl
 | .str _,_=>by unfold gF;rfl
 | .emp,_=>by unfold gF;rfl
theorem lb(Z:m<=n):∀ds,df m ds=b_->df n ds=b_
 |[],_=>by unfold df;rfl
 |d::ds,h=>by
  unfold df at h⊢;rw[OA]at h⊢;exact⟨Ef Z d h.1,lb Z ds h.2⟩
end
section
variable {c:M D}{S:aK}{Q:D->aK->Prop}{v:D}
theorem AW:iF (aC v)=aC v:=by funext S;show(if S.length<=S.length then _ else _)=_;rw[if_pos (NQ _)];rfl
theorem Eg:iF (M.raise x)=M.raise x:=rfl
theorem pU(e:c S=ar (.ok d,S'))(Y:qF S S')(X:S.length<S'.length\/u=d)(W:S.length<=S'.length)(Z:m6 S.length (FI S' S.length 60) d=ar u):iF c S=ar (.ok u,S'.take S.length):=by
 unfold iF;rw[e];dsimp only;by_cases h:S'.length<=S.length
 ·have hd:u=d:=X.resolve_left (by omega);rw[if_pos h,hd,Qy h]
 ·rw[if_neg h,if_pos Y,Z]
theorem GJ(h:runs c S λd Z=>qF S Z/\S.length<=Z.length/\gF S.length d=b_/\Q d (Z.take S.length)):runs (iF c) S Q:=by obtain⟨d,Z,e,Y,X,hd,q⟩:=h;exact⟨d,_,pU e Y (.inr rfl) X (zW d hd),q⟩
theorem sv:qF S (S++G):=λk xs Z e=>.inl (by rw[Os Z]at e;exact e)
theorem Eh(h:runs c S λd Z=>(∃G,Z=S++G)/\gF S.length d=b_/\Q d S):runs (iF c) S Q:=by obtain⟨d,Z,e,⟨G,rfl⟩,hd,q⟩:=h;exact GJ ⟨d,_,e,sv,by simp,hd,by simpa using q⟩
theorem xT(h:runs c S λd Z=>∃G p us,d= .lst p/\Z=S++G/\Z[p]? =ar us/\S.length<=p/\df S.length us=b_/\Q (.fz us) S):runs (iF c) S Q:=by
 obtain⟨d,Z,e,G,p,us,rfl,rfl,Y,U,X,q⟩:=h;have W:=(NX.mp Y).1;refine⟨.fz us,S,?_,q⟩;have:=pU (u:=.fz us) e sv (.inl (by omega)) (by simp) (by unfold m6;rw[if_neg (by omega)];show(((S++G)[p]?).bind λxs=>lN S.length (FI (S++G) S.length 59) xs).map D.fz=_;rw[Y,Option.bind_some,jN us X];rfl)
 rw[this];simp
theorem bM{α:Type}{c:M α}{v:α}(h:∀S,runs c S λd Z=>d=v/\Z=S):c=aC v:=by funext S;obtain⟨d,Z,e,rfl,rfl⟩:=h S;exact e
theorem HF(Y:gF 0 v=b_)(h:∀S,runs c S λd Z=>d=v/\∃G,Z=S++G):iF c=aC v:=
 bM λS=>Eh (uE (h S) λd Z ⟨e,g⟩=>⟨g,by rw[e];exact Ef (Og _) v Y,e,rfl⟩)
theorem GK(Y:df 0 us=b_)(h:∀S,runs c S λd Z=>∃G p,d= .lst p/\Z=S++G/\Z[p]? =ar us/\S.length<=p):iF c=aC (.fz us):=
 bM λS=>xT (uE (h S) λd Z ⟨G,p,e1,e2,e3,e4⟩=>⟨G,p,us,e1,e2,e3,e4,lb (Og _) us Y,rfl,rfl⟩)
theorem cw(Z:df 0 us=b_)(Y:us.length<=lim):iF (bQ us)=aC (.fz us):=
 GK Z λS=>B6.mpr ⟨Y,[us],S.length,rfl,rfl,by simp,NQ _⟩
end
theorem cJ:iJ ⟨its,.none⟩=aC ():=by funext S;unfold iJ;rw[if_pos (show Iter.okS ⟨its,.none⟩ S from trivial)];rfl
section
variable {its:List D}{g:lR}{t:aE->M Bool}{m:TM}
theorem xU(R:aE->Prop)(q:D->Bool)(f:D->D):∀(items:List D) (ρ:aE),R ρ->(∀d∈items,∀ ρ,R ρ->∃Z,g d ρ=aC Z/\R Z/\t Z=aC (q d)/\(q d=b_->m Z=aC (f d)))->
  c0 ⟨its,.none⟩ g t m items ρ=aC ((items.filter q).map f)
 |[],ρ,_,_=>by unfold c0;rw[cJ];rfl
 |d::ds,ρ,hR,hb=>by
  obtain⟨Z,e1,Y,e2,U⟩:=hb d (Ol ..) ρ hR;have W:=xU R q f ds Z Y λx X=>hb x (N7 _ X);unfold c0;rw[cJ,aq,e1,aq,e2,aq,W];cases hq:q d with
  |true=>rw[PR hq,if_pos rfl,U hq,aq];rfl
  |false=>rw[PU (by rw[hq];decide),if_neg (by decide)]
theorem AX(R:aE->Prop)(q:D->Bool)(f:D->D)(Y:its.length<=lim)(X:R ρ)(Z:∀d∈its,∀ ρ,R ρ->∃ ρ1,g d ρ=aC ρ1/\R ρ1/\t ρ1=aC (q d)/\(q d=b_->m ρ1=aC (f d))):
  gM ⟨its,.none⟩ g t m ρ=aC ((its.filter q).map f):=by
 unfold gM;rw[if_pos Y];exact xU R q f its ρ X Z
theorem AY{bd:BM}(R:aE->Prop)(q:D->Bool)(f:D->List D):∀(items:List D) (ρ:aE),R ρ->(∀d∈items,∀ ρ,R ρ->∃Z,g d ρ=aC Z/\t Z=aC (q d)/\(q d=b_->∃Y,R Y/\bd Z=aC (f d,Y))/\(q d=c_->R Z))->
  ∃ ρ',R ρ'/\cB ⟨its,.none⟩ g t bd items ρ=aC ((items.filter q).flatMap f,ρ')
 |[],ρ,hR,_=>⟨ρ,hR,by unfold cB;rw[cJ];rfl⟩
 | d::ds,ρ,hR,hb=>by
  obtain⟨Z,e1,e2,P,S⟩:=hb d (Ol ..) ρ hR;have W:=λx Q=>hb x (N7 d Q);cases hq:q d with
  |true=>
   obtain⟨Y,U,O⟩:=P hq;obtain⟨ρ',X,T⟩:=AY R q f ds Y U W;refine⟨ρ',X,?_⟩;unfold cB;rw[cJ,aq,e1,aq,e2,aq,hq,if_pos rfl,O,aq];show(cB _ g t bd ds Y>>=_)=_;rw[T,aq,PR hq];rfl
  |false=>
   obtain⟨ρ',X,T⟩:=AY R q f ds Z (S hq) W;refine⟨ρ',X,?_⟩;unfold cB;rw[cJ,aq,e1,aq,e2,aq,hq,if_neg (by decide),T,PU (by rw[hq];decide)]
end
end S3
namespace S7
open PySem PySem.Spec PyProof.Rows L2 S3
section
variable {X:Cx}{E:XD}{k i jn jy:Nat}{a c':b'}{ql:Str}{ds:List D}{vs:List V}{m:TM}{x n y cx:Str}{p cpos epos np p1 p2 p3 hpos tpos:Pos}
end
section
variable {X:Cx}{x ql:Str}{k k0 i:Nat}{a c':b'}{ps:List Str}{R:D->M D->List D->M D}{R':M D->List D->M D}{p pos:Pos}{e:Expr}{es:List Expr}{ms:S3.aE->M (List D)}{m:TM}{ds:List D}{vs:List V}
end
section
variable {X:Cx}{E:XD}{pos:Pos}
end
end S7
namespace S3
open PySem PySem.Spec PySem.W PyProof.Rows L2 S4
section
variable {X:Cx}{E:XD}{e:Expr}{m:TM}{pos:Pos}
theorem tV:d8 X (.builtin "sorted") (λxs H Q=>∃(p:b') (ns:List Int),xs=[.ref p]/\mR X.K H p (ns.map V.int)/\ns.length<64/\∀l,H l=none->Q (.ref l) (upd H l (.lst ((sortI ns).map V.int)))):=by
 intro pins s σ H xs us Q I r h;obtain⟨p,ns,rfl,J,G,q⟩:=h;obtain⟨u,rfl,N⟩:=vals1 r;cases (show u=ey p from N);obtain⟨its,S,⟨o,F,P,n,hd⟩,C⟩:=I.tuple J;have O:ma its ns:=QQ S;have hlen:=S.length;rw[NM]at hlen C;refine Q8 kind_sorted plain_sorted entry_sorted (args_sorted1 _) ?_;unfold Builtin.«sorted»;refine NN (m:=checkCount "sorted" 1 1 _) (NT ?_);refine NN (wpAny_collect_seq p (.inr rfl) F P hd (λh' keep=>?_) (by rw[N5];omega));rw[List.toList_toArray];refine NN (RK ?_ (by rw[OW];omega));have Z:(h'.push (p_ "list" its.toArray 0)).get? h'.objs.size=ar (p_ "list" its.toArray 0):=N4 _ rfl;refine NN (O5 (O8 slot_list_sort ⟨_,Z,rfl⟩ entry_list_sort (list_sort_tree Z O (by omega) λout U a1 a2 L=>⟨_,rfl,?_⟩) (args_list_sort _)));refine NT ⟨_,rfl,?_⟩;have en:U=sortI ns:=W.lks_uniq (a2.trans (sortI_perm ns).symm) L (gg ns);subst en;obtain⟨c,T⟩:=sortedHeap_at (vs:=its) (out:=out) Z;have R:L2.Inv X pins σ H {s with heap:=h',toks:=s.toks}:=I.kept keep;have hf:H h'.objs.size=none:=R.hok.fresh (NQ _);refine⟨.ref h'.objs.size,_,R.laid (t':=s.toks) (o:=.lst ((sortI ns).map V.int)) (λb o e=>?_) (NQ _) ⟨?_,out.toList,c,ki a1,T⟩,rfl,q _ hf⟩
 ·have Y:b<h'.objs.size:=NV e;rw[sortedHeap_old (Ob Y) (by rw[size_push'];exact O1 Y)];exact NO _ e
 ·rw[NM,(sortI_perm ns).length_eq,OW];omega
theorem tW:d8 X (.builtin "sorted") (λxs H Q=>∃(p:b') (vs:List V) (Z:List (List Int)),xs=[.ref p]/\mR X.K H p vs/\TRow H vs Z/\vs.length<64/\
  ∀q,ja Z q->∀l,H l=none->Q (.ref l) (upd H l (.lst (q.map λi=>vs.getD i .non)))):=by
 intro pins s σ H xs us Q I r h;obtain⟨p,vs,Z,rfl,N,T,Y,q⟩:=h;obtain⟨u,rfl,S⟩:=vals1 r;cases (show u=ey p from S);obtain⟨its,W,⟨o,O,U,n,hd⟩,G⟩:=I.tuple N;have L:=W.length;refine lI I (λus=>us=its) (λR E' J=>?_) λus P=>⟨vs,Z,by rw[P];exact W,T,Y,q⟩;refine wpAny_collect_seq p (.inr rfl) O U hd (λh' keep=>?_) (by rw[N5];omega);rw[List.toList_toArray];exact J its h' s.toks rfl keep
def mw:List D->M D
 |[.tup xs]=>kx xs
 |_=>M.fail
def HG(X:Cx):List V->Hp->VK->Prop:=λxs H Q=>(∃(p:b') (ns:List Int),xs=[.ref p]/\mR X.K H p (ns.map V.int)/\ns.length<64/\∀l,H l=none->Q (.ref l) (upd H l (.lst ((sortI ns).map V.int))))\/
 ∃(p:b') (vs:List V) (nss:List (List Int)),xs=[.ref p]/\mR X.K H p vs/\TRow H vs nss/\vs.length<64/\∀q,ja nss q->∀l,H l=none->Q (.ref l) (upd H l (.lst (q.map λi=>vs.getD i .non)))
theorem tX:d8 X (.builtin "sorted") (HG X):=by
 intro pins s σ H xs us Q I r h;rcases h with h|h
 ·exact tV pins s σ H xs us Q I r h
 ·exact tW pins s σ H xs us Q I r h
theorem sx:lW X.K E mw (HG X):=by
 intro Y S H ds vs Q rep r c;unfold mw at c;split at c
 ·next es=>
  obtain⟨v,ws,rfl,I,N⟩:=r.cons_inv;cases N.nil_inv;obtain⟨p,us,rfl,T,R⟩:=I.tup_inv;unfold kx at c;cases q:intsOf es with
  | some ns=>
   rw[q]at c;have c:cont X.K E (if ns.length<64 then bQ ((sortI ns).map D.int)else M.fail) Y S H (nB X.K Q):=c;by_cases h:ns.length<64
   ·rw[if_pos h]at c;exact .inl ⟨p,ns,rfl,.of (by rw[<-fT R q];exact T),h,(bK c rep (oH _)).2⟩
   ·rw[if_neg h]at c;exact(au c).elim
  | none=>
   rw[q]at c;cases q2:rowsOf es with
   |none=>rw[q2]at c;exact(au c).elim
   | some nss=>
    rw[q2]at c;have Z:cont X.K E (if nss.length<64/\two nss=b_ then bQ ((bc nss).map tupI)else M.fail) Y S H (nB X.K Q):=c;by_cases h:nss.length<64/\two nss=b_
    ·rw[if_pos h]at Z;obtain⟨g1,g2⟩:=sh R q2;refine .inr ⟨p,us,nss,rfl,.of T,AN ⟨g1,g2⟩ h.2,by omega,λW P l L=>?_⟩;have U:∀i∈W,i<us.length:=λi J=>by rw[g1];exact N0.mp (P.1.mem_iff.mp J)
     have O:RelDs X.K Y H ((bc nss).map tupI) (W.map λi=>us.getD i .non):=by rw[<-sg P];exact si g2 W U
     exact(bK Z rep O).2 l L
    ·rw[if_neg h]at Z;exact(au Z).elim
 ·exact(au c).elim
theorem zX{p:Pos}(Z:X.mg "sorted"=none)(Y:SE X E e m)(W:Gl X "sorted":=by rfl)(hs:dt [e] X.env=[(c_,hD e X.env)]:=by rfl):SE X E (.Call (.Name "sorted" p) [e] [] pos) (λρ=>do let ds<-(do let x<-m ρ;let xs<-aC [];aC (x::xs));mw ds):=
 i7 tX sx W Z (by decide+kernel) (af Y ah hs) (by decide) (by decide) hs rfl
end
end S3
namespace S3
open PySem PySem.Spec PyProof.Rows L2 PySem.SeqAt
theorem sy{M:SH}{A:f_}{E:a_->cn->Prop}{s:cn}{Y:Type}{b:Nat}(f:Nat->Y->Sem (ForInStep Y))(I:Nat->Y->cn->Prop)(Q:Y->cn->Prop)
  (Z:∀i c s,i<b->I i c s->ed M A (f i c) (λr s'=>match r with| .yield c'=>I (i+1) c' s'| .done c'=>Q c' s') E s)
  (U:∀c s,I b c s->Q c s) (c:Y) (h:I 0 c s):ed M A (Tb [:b] c f) Q E s:=by
 rw[Std.Legacy.Range.forIn_eq_forIn_range'];have W:([:b]:Std.Legacy.Range).size=b:=by simp[Std.Legacy.Range.size]
 show ed M A (Tb (hO 0 ([:b]:Std.Legacy.Range).size 1) c f) Q E s;rw[W];refine wpAny_forIn_list f (λl c s=>∃i,i<=b/\l=hO i (b - i) 1/\I i c s) Q ?_ ?_ _ c ⟨0,Og _,rfl,h⟩
 ·rintro x rest c s ⟨i,hib,hl,hI⟩;have X:i<b:=by
   rcases Nat.lt_or_ge i b with h'|h'
   ·exact h'
   ·rw[show b - i=0 by omega]at hl;simp at hl
  obtain⟨n,T⟩:∃n,b - i=n+1:=⟨b - i - 1,by omega⟩;rw[T,List.range'_succ]at hl;obtain⟨rfl,rfl⟩:=OJ hl;refine Oq (Z x c s X hI) (λr s' h'=>?_) λ_ _ h'=>h';cases r with
  |done c'=>exact h'
  |yield c'=>exact⟨x+1,X,by congr 1;omega,h'⟩
 ·rintro c s ⟨i,hib,hl,hI⟩;have:b - i=0:=by
   have:=P6 B' hl;simpa using this.symm
  have:i=b:=by omega
  subst this;exact U c s hI
theorem tY(l:b')(items:Array a_)(n:Nat)(dd:Option b')(U:Array (Option a_))(x:a_)(e:a_->Bool)(j:Nat)(P:j<items.size)(X:e items[j]=b_)(Y:∀m (hm:m<items.size),m<j->e items[m]=c_):
  Tf (Builtin.«tuple.index» ⟨[.ref l,x],[]⟩)
   (λA R s=>s.heap.get? l=ar {cls:=.type "tuple",dict:=dd,data:=.seq items n,slots:=U}/\(∀y,y∈items->EqAt A.in1 s y x (e y))/\R (.ok (.ret (.int j s.toks))) {s with toks:=s.toks+1}):=
 .of_wp λprog w A R s h=>by
  obtain⟨Q,g,d,T,os⟩:=s;obtain⟨S,he,h⟩:=h;have W:min items.size items.size=items.size:=Nat.min_self _
  wp_walk using Rw S,sy _ (λi b s'=>i<=j/\b.1=none/\s'=⟨Q,g,d,T,os⟩) _
  next=>
   rintro i b s' hi ⟨hij,hb,rfl⟩;have Z:i<items.size:=by omega
   rw[Array.getElem?_eq_getElem Z];refine NN (he _ (Array.getElem_mem Z) prog w _ _ ?_);by_cases hc:i=j
   ·subst hc;rw[X]
    wp_walk
    exact⟨_,rfl,h⟩
   ·rw[Y i Z (by omega)]
    wp_walk
    exact⟨by omega,rfl,rfl⟩
  next=>
   rintro b s' ⟨hij, -, -⟩;omega
  next=>
   exact⟨Og _,rfl,rfl⟩
section
variable {X:Cx}{E:XD}{o e:Expr}{es:List Expr}{m:TM}{ms:aE->M (List D)}{pos:Pos}
def nP:D->List D->M D:=λt ds S=>match ds with
 | [x]=>match gO S 60 t,gO S 60 x with
  |some (.tuple xs),ar p=>match xs.findIdx? λy=>eo y p with
   |some j=>ar (.ok (.int j),S)
   |none=>none
  |_,_=>none
 |_=>none
def Ei:V->List V->Hp->VK->Prop:=λx vs H Q=>∃y p xs j,vs=[y]/\(ReadsV H x (.tuple xs)/\(wM xs).canLay0=b_/\(wM xs).depth<=60)/\(ReadsV H y p/\p.canLay0=b_/\p.depth<=60)/\xs.findIdx? (λz=>eo z p)=ar j/\Q (.int j) H
theorem Ej(z:X.A.units+64<xy):LQ X "tuple.index" Ei:=by
 intro pins s σ H x vs v us Q I R N h;obtain⟨y,p,xs,j,rfl,⟨L,U,B⟩,⟨S,O,w⟩,T,q⟩:=h;obtain⟨u,rfl,P⟩:=N.one;obtain⟨as,C⟩:=L.heap I.hok R;obtain⟨bs,K⟩:=S.heap I.hok P;cases C with
 | @tuple a ob its n _ _ h1 h2 h3 h4=>
  obtain⟨cls,dd,data,J⟩:=ob;simp only at h2 h3;subst h2 h3;have Z:=readsAll_map xs _ _ U h4;rw[<-Z,List.findIdx?_map]at T;obtain⟨W,hit,Y⟩:=List.findIdx?_eq_some_iff_getElem.mp T;have hd:=mn B;have hm:min (la xs) p.depth<=60:=NZ (Qp _ _) hd;refine RH F.slot_tuple_index ⟨_,h1,rfl⟩ F.entry_tuple_index (F.args_tuple_index_2 _ _)
   (tY a its n dd J u (λy=>eo (readOf s.heap y) p) j (by simpa using W) (by simpa using hit) (λm hm G=>by simpa using Y m G)) ⟨h1,items_eqAt h4 K U O (by omega),?_⟩
  exact⟨.int j,H,I.tok _,⟨_,rfl⟩,q⟩
theorem Co:K1 X.K E nP Ei:=by
 intro Y S H d ds v vs Q rep r rs c;obtain⟨T,U,e,k⟩:=c;unfold nP at e;split at e
 ·next x=>
  obtain⟨w,ws,rfl,W,Z⟩:=rs.cons_inv;cases Z.nil_inv;split at e
  ·next xs p hp hq=>
   split at e
   ·next j hj=>
    cases e;exact⟨w,p,xs,j,rfl,mU rep 60 d _ v hp r,mU rep 60 x p w hq W,hj,k Y H .refl rep _ (.int _)⟩
   ·cases e
  ·cases e
 ·cases e
def Nj:D->M Unit
 | .tup _=>aC ()
 |_=>M.fail
abbrev El(f:D->List D->M D)(m n:TM):TM:=λρ=>do let x<-m ρ;Nj x;let ds<-(do let y<-n ρ;let ys<-aC [];aC (y::ys));f x ds
theorem xV{n:TM}{Z:Pos}(N:X.A.units+64<xy)(K:SE X E o m)(P:SE X E e n)
  (W:u0 o "index" X.env (hD o X.env)=hD o X.env:=by rfl)
  (Y:(Z.endLine==pos.line)=true:=by rfl) (hs:dt [e] X.env=[(c_,hD e X.env)]:=by rfl):
  SE X E (.Call (.Attribute o "index" Z) [e] [] pos) (El nP m n):=by
 refine PE.imp (Hx PySem.F.plainAttrs_tuple PySem.F.slot_tuple_index PySem.F.type_tuple_index (Ej N) K (af P ah hs) W (by rw[hs];rfl) Y hs rfl) λσ H Q h=>?_;obtain⟨L,S,ρ,rep,re,c⟩:=h;refine⟨L,S,ρ,rep,re,az (av c) λx U S1 C e1 rep1 c1 v G=>?_⟩;cases x with
 |tup us=>
  have I:=ao (av c1) .refl rep1;cases G with
  |tup hv hs=>exact⟨.inr (.inl ⟨rfl,_,hv⟩),U,S1,ρ,rep1,re.later rep e1,az (av I) λds T S2 R e2 rep2 J vs O=>Co T S2 R _ ds _ vs Q rep2 ((RelD.tup hv hs).later rep1 e2) O J⟩
 |_=>exact(au (av c1)).elim
end
end S3
namespace W
open PySem PySem.Spec PyProof.Rows L2 S3 S4 S7
def sA:cL:=bE (oJ (xA (mV 0) "int") (MP (xA (mV 0) "bool")))
def dM:List D->M D:=j9 1 1 sA
def uI:cL:=bE (oJ (xA (mV 0) "tuple") (aU kH (bX dj (mV 0)) (mK (.int 2))))
def dg:List D->M D:=j9 1 1 uI
def jd:fe:=eO
def je:TM:=aU xq (mV 0) (mV 1)
def qL:cL:=bE (bX jI (aL (a7 (DX (mV 0) (aL (DO (mV 0) (oS (mK (.int 1))) oN))) (dy 2 (aY (gN 0) (aY (gN 1) dE))) jd je [none,none])))
def cq:List D->M D:=j9 1 1 qL
def fB:fe:=eO
def dN:fe:=eO
def cH:TM:=dz (ae (mV 0) (ae (mV 1) aj))
def sC:cL:=bE (aL (pT (n5 (mV 0)) (gN 0) fB (vN (aU cW (mV 0) (mK (.int 1))) (mV 2)) (gN 1) dN cH [none,none,ar 0]))
def cO:List D->M D:=j9 1 1 sC
def sD:cL:=bE (aU inD (dz (ae (ak minD (ae (mV 1) (ae (mV 2) aj))) (ae (ak maxD (ae (mV 1) (ae (mV 2) aj))) aj))) (aU b9 (mV 0) (mK (.int 1))))
def dv:List D->M D:=j9 3 3 sD
def fU:fe:=eO
def fV:TM:=aU inD (mV 0) (mV 1)
def fW:fe:=bV (bX jI (aL (a7 (bP (mV 1)) (gN 0) fU fV [none,ar 0])))
def fX:TM:=mV 0
def lJ:cL:=bE (bX dj (aL (a7 (bP (mV 0)) (gN 0) fW fX [none,ar 1])))
def aX:List D->M D:=j9 2 2 lJ
def jf:fe:=eO
def jg:TM:=aU inD (mV 0) (mV 1)
def qM:cL:=bE (bX xM (aL (a7 (bP (mV 0)) (gN 0) jf jg [none,ar 1])))
def f9:List D->M D:=j9 2 2 qM
def mz:cL:=aF (jb (d5 xq (mV 1) (bX dj (mV 0))) (bE (aU b9 (mV 0) (mV 1))) dG) (bE (mK (.int 0)))
def eU:List D->M D:=j9 2 2 mz
def qN:cL:=aF (jb (bV (aU b9 (mV 0) (mK (.int 1)))) (aF (cb 2 (aU ny (aU b9 (mV 0) (mK (.int 0))) (mV 1))) (aF (qW (aU oC (aU b9 (mV 0) (mK (.int 0))) (mV 1)) (LV (mV 0) (mK (.int 0)))) (bE (mV 2)))) dG) (aF (qW (aU ny (aU cW (aU vx (aU b9 (mV 0) (mK (.int 0))) (mK (.int 48271))) (mK (.int 29))) (mK (.int 2147483647))) (LV (mV 0) (mK (.int 0)))) (aF (cb 3 (aU ny (aU cW (aU cW (aU vx (aU b9 (mV 0) (mK (.int 0))) (aU b9 (mV 0) (mK (.int 0)))) (aU vx (mK (.int 39373)) (aU b9 (mV 0) (mK (.int 0))))) (mK (.int 7))) (mK (.int 2147483629)))) (aF (cb 3 (aU ny (aU cW (aU vx (mV 3) (mV 3)) (aU vx (mK (.int 16807)) (mV 3))) (mK (.int 2147483587)))) (bE (aU ny (aU oC (mV 3) (mK (.int 8))) (mV 1))))))
def aV:List D->M D:=j9 4 2 qN
def fM:fe:=eO
def fN:TM:=dz (ae (mV 1) (ae (mV 0) aj))
def ib:cL:=nO (zI fK (mV 1) (aL (a7 (vN (aU cW (mV 2) (mK (.int 1))) (mV 0)) (gN 0) fM fN [none,ar 2])))
def oU:cL:=aF (cb 1 (cX aj)) (aF (nz (n5 (mV 0)) (gN 2) ib) (bE (mV 1)))
def bj:List D->M D:=j9 3 1 oU
def jh:fe:=d5 xq (bX m5 (aL (aU cW (aU b9 (mV 1) (mV 2)) (aU b9 (mV 1) (mV 0))))) (mK (.int 4))
def ji:TM:=dz (ae (mV 2) (ae (mV 0) aj))
def jj:cL:=nO (zI fK (mV 2) (aL (a7 (vN (aU cW (mV 3) (mK (.int 1))) (bX dj (mV 1))) (gN 0) jh ji [none,ar 1,ar 3])))
def qO:cL:=aF (cb 1 (aU b9 (mV 0) (mK (.int 1)))) (aF (cb 2 (cX aj)) (aF (nz (n5 (bX dj (mV 1))) (gN 3) jj) (bE (dz (ae (bX dj (mV 1)) (ae (bX bY (mV 2)) aj))))))
def g6:List D->M D:=j9 4 1 qO
def ic:fe:=eO
def ie:TM:=bX bY (aL (bX bG (aL (cX (ae (aU b9 (mV 2) (mV 0)) (ae (aU b9 (mV 2) (mV 1)) aj))))))
def oV:cL:=bE (dz (ae (aU b9 (mV 0) (mK (.int 0))) (ae (bX bY (aL (bX bG (aL (a7 (bP (aU b9 (mV 0) (mK (.int 1)))) (dy 2 (aY (gN 0) (aY (gN 1) dE))) ic ie [none,none,ar 1]))))) aj)))
def cI:List D->M D:=j9 2 2 oV
def sE:cL:=bE (oJ (ak dM (ae (mV 1) aj)) (Jh Gh xq (mK (.int 0)) (mV 1) (mV 0)))
def fY:List D->M D:=j9 2 2 sE
def nQ:fe:=eO
def nR:TM:=aL (ak dv (ae (mV 1) (ae (mV 0) (ae (mV 2) aj))))
def vT:cL:=bE (bX jI (aL (a7 (bP (mV 1)) (gN 0) nQ nR [none,ar 0,ar 2])))
def gm:List D->M D:=j9 3 3 vT
def jk:fe:=eO
def jl:TM:=aU kH (aL (ak aX (ae (mV 1) (ae (dz (ae (mV 0) aj)) aj)))) (mK (.int 2))
def jm:fe:=d5 inD (mV 0) (mV 1)
def jo:TM:=mV 0
def jq:fe:=eO
def jr:TM:=aU xq (bX dj (aL (a7 (bP (mV 1)) (gN 0) jm jo [none,ar 0]))) (mK (.int 2))
def jO:cL:=aF (jb (bV (bX xM (aL (a7 (bP (mV 1)) (gN 0) jk jl [none,ar 0])))) (bE (mK (.bl c_))) dG) (bE (bX jI (aL (a7 (bP (mV 0)) (gN 0) jq jr [none,ar 1]))))
def eV:List D->M D:=j9 2 2 jO
def ig:fe:=d5 kH (aL (ak aX (ae (mV 1) (ae (dz (ae (mV 0) aj)) aj)))) (mK (.int 1))
def ij:TM:=mV 0
def ik:fe:=d5 kH (aL (ak aX (ae (mV 1) (ae (dz (ae (mV 0) aj)) aj)))) (mK (.int 0))
def il:TM:=mV 0
def ip:fe:=eO
def iq:TM:=dz (ae (mV 0) aj)
def iL:cL:=aF (cb 2 (aL (a7 (n5 (mV 0)) (gN 0) ig ij [none,ar 1]))) (aF (cb 3 (aL (a7 (n5 (mV 0)) (gN 0) ik il [none,ar 1]))) (bE (aL (aU cW (mV 1) (aL (a7 (bP (aL (aU cW (mV 2) (aL (bX bG (aL (aU cW (mV 3) (mV 3)))))))) (gN 0) ip iq [none]))))))
def iM:List D->M D:=j9 4 2 iL
def lg:fe:=eO
def lh:TM:=aU kH (aL (ak dv (ae (mV 1) (ae (mV 0) (ae (mV 2) aj))))) (aL (ak dv (ae (mV 3) (ae (aU b9 (mV 4) (mV 0)) (ae (mV 5) aj)))))
def pV:cL:=aF (cb 4 (bX dj (mV 2))) (aF (jb (d5 inD (mV 3) (mV 2)) (bE (mK (.bl c_))) dG) (bE (bX jI (aL (a7 (n5 (mV 4)) (gN 0) lg lh [none,ar 0,ar 4,ar 1,ar 2,ar 3])))))
def gc:List D->M D:=j9 5 4 pV
def oW:cL:=aF (cb 2 (ak eU (ae (mV 0) (ae (mV 1) aj)))) (aF (jb (d5 Hy (mV 2) (aU Ds (mK (.int 10)) (mK (.int 18)))) (bE (cX (ae (aU i9 (mV 2) (aU Ds (mK (.int 10)) (mK (.int 18)))) (ae (mK (.bl b_)) aj)))) dG) (bE (cX (ae (aU ny (mV 2) (mK (.int 2147483647))) (ae (mK (.bl c_)) aj)))))
def iN:List D->M D:=j9 3 2 oW
def cT:cL:=nO (zI gf (mV 3) (zI pN (mV 2) (aL (ak aV (ae (mV 0) (ae (bX dj (mV 2)) aj))))))
def fi:cL:=aF (cb 2 (bX uB (mV 1))) (aF (cb 3 (cX aj)) (aF (Ji 64 (d5 mW (mV 2) (aL (cX aj))) cT) (bE (mV 3))))
def bb:List D->M D:=j9 4 2 fi
def sF:cL:=aF (jb (eQ (bV (ak dg (ae (mV 1) aj)))) (bE (mK (.bl c_))) dG) (aF (qW (mV 1) (dy 2 (aY (gN 2) (aY (gN 3) dE)))) (bE (oJ (ak fY (ae (mV 0) (ae (mV 2) aj))) (oJ (ak fY (ae (mV 0) (ae (mV 3) aj))) (aU xq (mV 2) (mV 3))))))
def kz:List D->M D:=j9 4 2 sF
def jt:fe:=eO
def ju:TM:=aL (ak fY (ae (mV 1) (ae (mV 0) aj)))
def qP:cL:=bE (oJ (xA (mV 1) "tuple") (oJ (bX jI (aL (a7 (bP (mV 1)) (gN 0) jt ju [none,ar 0]))) (aL (ak cq (ae (mV 1) aj)))))
def d9:List D->M D:=j9 2 2 qP
def kb:fe:=d5 xq (aL (ak aV (ae (mV 1) (ae (mK (.int 8)) aj)))) (aU b9 (aL (cX (ae (mK (.int 2)) (ae (mK (.int 4)) (ae (mK (.int 6)) aj))))) (aU ny (mV 2) (mK (.int 3))))
def kc:TM:=mV 0
def gP:cL:=nO (zI gf (mV 4) (bX bY (aL (bX bG (aL (cX (ae (aU b9 (mV 5) (mV 6)) (ae (aU b9 (mV 5) (aU b9 (aL (cX (bg (aU i9 (mV 6) (mK (.int 1))) (bg (aU i9 (mV 6) (mK (.int 1))) (bg (mK (.int 0)) (bg (aU oC (mV 6) (mK (.int 2))) aj)))))) (aU i9 (mV 3) (mK (.int 3))))) aj))))))))
def fC:fe:=d5 kH (aL (ak aV (ae (mV 1) (ae (mK (.int 12)) aj)))) (mK (.int 0))
def fD:TM:=mV 0
def gQ:fe:=d5 mW (aU inD (mV 0) (mV 1)) (aU inD (mV 0) (mV 2))
def gR:TM:=mV 0
def lj:cL:=aF (cb 2 (ak maxD (ae (mK (.int 0)) (ae (aU i9 (mV 1) (aU b9 (aL (cX (bg (mK (.int 0)) (bg (mK (.int 0)) (bg (mK (.int 1)) (bg (mK (.int 0)) (bg (mK (.int 2)) (bg (mK (.int 1)) (bg (mK (.int 3)) (bg (mV 1) aj)))))))))) (aL (ak aV (ae (mV 0) (ae (mK (.int 8)) aj)))))) aj)))) (aF (cb 3 (aL (ak aV (ae (mV 0) (ae (mK (.int 7)) aj))))) (aF (cb 4 (a7 (bP (aL (ak bj (ae (mV 2) aj)))) (gN 0) kb kc [none,ar 0,ar 3])) (aF (cb 5 (aL (ak bb (ae (mV 0) (ae (aL (bX cD (mV 2))) aj))))) (aF (jb (d5 xp (mV 3) (mK (.int 2))) (aF (cb 4 (cX aj)) (aF (nz (vN (mK (.int 1)) (mV 2)) (gN 6) gP) (aF (jb (xB (d5 kH (mV 3) (mK (.int 4))) (d5 xp (mV 2) (mK (.int 2)))) (nO (zI gf (mV 4) (bX bY (aL (bX bG (aL (cX (ae (aU b9 (mV 5) (mK (.int 0))) (ae (aU b9 (mV 5) (aU i9 (mV 2) (mK (.int 1)))) aj))))))))) dG) (aF (cb 7 (aL (a7 (bP (aL (ak bj (ae (mV 2) aj)))) (gN 0) fC fD [none,ar 0]))) (cb 4 (a7 (bP (aL (ak bj (ae (mV 2) aj)))) (gN 0) gQ gR [none,ar 4,ar 7])))))) dG) (bE (dz (ae (mV 2) (ae (bX bY (aL (bX bG (mV 4)))) aj))))))))
def gG:List D->M D:=j9 8 2 lj
def jP:fe:=eO
def jQ:TM:=aL (ak kz (ae (mV 1) (ae (mV 0) aj)))
def sG:cL:=aF (jb (eQ (bV (aL (ak dg (ae (mV 0) aj))))) (bE (mK (.bl c_))) dG) (aF (qW (mV 0) (dy 2 (aY (gN 1) (aY (gN 2) dE)))) (aF (jb (yP (eQ (bV (aL (ak dM (ae (mV 1) aj))))) (yP (eQ (zJ Gh Gh (mK (.int 0)) (mV 1) (mK (.int 14)))) (eQ (bV (xA (mV 2) "tuple"))))) (bE (mK (.bl c_))) dG) (bE (oJ (bX jI (aL (a7 (bP (mV 2)) (gN 0) jP jQ [none,ar 1]))) (aL (ak cq (ae (mV 2) aj)))))))
def g9:List D->M D:=j9 3 1 sG
def gH:fe:=eO
def gI:TM:=aL (ak gm (ae (mV 2) (ae (aL (DO (mV 3) oN (oS (mV 0)))) (ae (mV 1) aj))))
def nD:cL:=aF (jb (yP (eQ (bV (aL (ak d9 (ae (aU b9 (mV 0) (mK (.int 0))) (ae (mV 1) aj)))))) (d5 xq (bX dj (mV 1)) (mK (.int 2)))) (bE (mK (.bl c_))) dG) (bE (bX jI (aL (a7 (uG (mV 1)) (dy 2 (aY (gN 0) (aY (gN 1) dE))) gH gI [none,none,ar 0,ar 1]))))
def gS:List D->M D:=j9 2 2 nD
def jv:fe:=eO
def jw:TM:=aL (ak kz (ae (aU b9 (mV 1) (mK (.int 0))) (ae (mV 0) aj)))
def jR:cL:=aF (jb (yP (eQ (bV (xA (mV 2) "tuple"))) (d5 mW (bX dj (mV 2)) (mV 1))) (bE (mK (.bl c_))) dG) (bE (oJ (bX jI (aL (a7 (bP (mV 2)) (gN 0) jv jw [none,ar 0]))) (aU kH (bX bY (aL (bX mw (mV 2)))) (aU b9 (mV 0) (mK (.int 1))))))
def jS:List D->M D:=j9 3 3 jR
def eh:fe:=d5 mW (aU inD (mV 0) (aU b9 (mV 1) (mK (.int 1)))) (aU kH (mV 0) (mV 2))
def ez:TM:=mV 0
def fO:cL:=aF (cb 2 (aL (ak aV (ae (mV 0) (ae (mK (.int 4)) aj))))) (aF (jb (d5 kH (mV 2) (mK (.int 0))) (bE (aL (ak gG (ae (mV 0) (ae (mV 1) aj))))) dG) (aF (cb 3 (aL (ak gG (ae (mV 0) (ae (mK (.int 6)) aj))))) (aF (cb 4 (aL (ak g6 (ae (dz (ae (aU b9 (mV 3) (mK (.int 0))) (ae (aL (DO (aU b9 (mV 3) (mK (.int 1))) oN (oS (mV 1)))) aj))) aj)))) (aF (cb 4 (aL (ak cI (ae (mV 4) (ae (aL (ak bb (ae (mV 0) (ae (aL (bX cD (aU b9 (mV 4) (mK (.int 0))))) aj)))) aj))))) (aF (jb (xB (d5 kH (mV 2) (mK (.int 1))) (d5 xp (aU b9 (mV 4) (mK (.int 0))) (mK (.int 1)))) (aF (cb 5 (aL (ak aV (ae (mV 0) (ae (aU b9 (mV 4) (mK (.int 0))) aj))))) (aF (cb 6 (aU ny (aU cW (aU cW (mV 5) (mK (.int 1))) (aL (ak aV (ae (mV 0) (ae (aU i9 (aU b9 (mV 4) (mK (.int 0))) (mK (.int 1))) aj))))) (aU b9 (mV 4) (mK (.int 0))))) (aF (cb 7 (dz (ae (ak minD (ae (mV 5) (ae (mV 6) aj))) (ae (ak maxD (ae (mV 5) (ae (mV 6) aj))) aj)))) (cb 4 (dz (ae (aU b9 (mV 4) (mK (.int 0))) (ae (bX bY (aL (a7 (bP (aL (ak bj (ae (aU b9 (mV 4) (mK (.int 0))) aj)))) (gN 0) eh ez [none,ar 4,ar 7]))) aj))))))) dG) (bE (mV 4)))))))
def eG:List D->M D:=j9 8 2 fO
def sH:cL:=jb (eQ (bV (aL (ak g9 (ae (mV 0) aj))))) (vR "NoWeb" (ae (mK (.str "this is no web")) aj)) dG
def bN:List D->M D:=qx 1 1 sH
def ir:fe:=eO
def iu:TM:=aL (ak gS (ae (mV 1) (ae (mV 0) aj)))
def oX:cL:=bE (oJ (xA (mV 1) "list") (oJ (bX jI (aL (a7 (bP (mV 1)) (gN 0) ir iu [none,ar 0]))) (aL (ak cq (ae (mV 1) aj)))))
def gn:List D->M D:=j9 2 2 oX
def jT:cL:=aF (nO (aL (ak bN (ae (mV 0) aj)))) (jb (d5 xp (aU b9 (mV 0) (mK (.int 0))) (mV 1)) (oR (ae (aU b9 (mV 0) (mK (.int 0))) (ae (mV 1) aj))) dG)
def bZ:List D->M D:=qx 2 2 jT
def ll:fe:=d5 inD (mV 1) (mV 0)
def lp:TM:=mV 0
def lq:fe:=eO
def lr:TM:=bX dj (aL (a7 (bP (mV 1)) (gN 0) ll lp [none,ar 0]))
def uJ:cL:=aF (nO (aL (ak bN (ae (mV 0) aj)))) (aF (qW (mV 0) (dy 2 (aY (gN 1) (aY (gN 2) dE)))) (bE (aL (yQ (a7 (n5 (mV 1)) (gN 0) lq lr [none,ar 2])))))
def fj:List D->M D:=qx 3 1 uJ
def jU:fe:=xB (d5 inD (mV 0) (mV 2)) (d5 inD (mV 1) (mV 2))
def jV:TM:=dz (ae (mV 0) (ae (mV 1) aj))
def jW:fe:=eO
def jX:TM:=dz (ae (El nP (mV 2) (mV 0)) (ae (El nP (mV 2) (mV 1)) aj))
def xW:cL:=aF (nO (aL (ak bN (ae (mV 0) aj)))) (aF (qW (mV 0) (dy 2 (aY (gN 2) (aY (gN 3) dE)))) (aF (jb (eQ (bV (aL (ak d9 (ae (mV 2) (ae (mV 1) aj)))))) (vR "NoPlaces" (ae (mK (.str "this is no rising tuple of places of the web")) aj)) dG) (aF (Jp (cb 4 (aL (a7 (bP (mV 3)) (dy 2 (aY (gN 0) (aY (gN 1) dE))) jU jV [none,none,ar 1])))) (bE (dz (ae (bX dj (mV 1)) (ae (bX bY (aL (yQ (a7 (bP (mV 4)) (dy 2 (aY (gN 0) (aY (gN 1) dE))) jW jX [none,none,ar 1])))) aj)))))))
def mB:List D->M D:=qx 5 2 xW
def fP:cL:=aF (nO (aL (ak bN (ae (mV 0) aj)))) (jb (d5 xp (bX dj (aU b9 (mV 0) (mK (.int 1)))) (mK (.int 7))) (oR (ae (bX dj (aU b9 (mV 0) (mK (.int 1)))) (ae (mK (.int 7)) aj))) dG)
def eH:List D->M D:=qx 1 1 fP
def mC:cL:=nO (aL (ak bZ (ae (mV 0) (ae (mK (.int 7)) aj))))
def cK:List D->M D:=qx 1 1 mC
def nE:cL:=aF (nO (aL (ak bN (ae (mV 0) aj)))) (aF (nO (aL (ak bN (ae (mV 1) aj)))) (aF (nO (aL (ak bZ (ae (mV 0) (ae (mK (.int 7)) aj))))) (nO (aL (ak bZ (ae (mV 1) (ae (mK (.int 7)) aj)))))))
def fE:List D->M D:=qx 2 2 nE
def iO:fe:=bV (aL (ak f9 (ae (aU b9 (mV 2) (mV 0)) (ae (aU b9 (mV 2) (mV 1)) aj))))
def iP:TM:=dz (ae (mV 0) (ae (mV 1) aj))
def pW:cL:=aF (nO (aL (ak eH (ae (mV 0) aj)))) (aF (cb 1 (aU b9 (mV 0) (mK (.int 1)))) (aF (cb 2 (bX dj (mV 1))) (bE (dz (ae (mV 2) (ae (bX bY (aL (yQ (a7 (bP (aL (ak cO (ae (mV 2) aj)))) (dy 2 (aY (gN 0) (aY (gN 1) dE))) iO iP [none,none,ar 1])))) aj))))))
def iX:List D->M D:=qx 3 1 pW
def iw:fe:=eO
def iy:TM:=aU kH (aL (ak aX (ae (mV 1) (ae (mV 0) aj)))) (mK (.int 1))
def iz:fe:=eO
def iA:TM:=aU Gh (aL (ak aX (ae (mV 1) (ae (dz (ae (mV 0) aj)) aj)))) (mK (.int 2))
def oY:cL:=aF (nO (aL (ak cK (ae (mV 0) aj)))) (aF (jb (eQ (bV (aL (ak gn (ae (mV 0) (ae (mV 1) aj)))))) (bE (mK (.bl c_))) dG) (aF (qW (mV 0) (dy 2 (aY (gN 2) (aY (gN 3) dE)))) (aF (jb (eQ (bV (bX jI (aL (yQ (a7 (bP (mV 3)) (gN 0) iw iy [none,ar 1])))))) (bE (mK (.bl c_))) dG) (bE (bX jI (aL (yQ (a7 (n5 (mV 2)) (gN 0) iz iA [none,ar 1]))))))))
def eA:List D->M D:=qx 4 2 oY
def iB:fe:=eO
def iD:TM:=aU kH (aL (ak dv (ae (mV 2) (ae (mV 0) (ae (mV 1) aj))))) (aL (ak f9 (ae (aU b9 (mV 3) (mV 0)) (ae (aU b9 (mV 3) (mV 1)) aj))))
def lu:cL:=aF (nO (aL (ak cK (ae (mV 0) aj)))) (aF (jb (eQ (bV (aL (ak dg (ae (mV 1) aj))))) (bE (mK (.bl c_))) dG) (aF (cb 2 (aU b9 (mV 0) (mK (.int 0)))) (aF (qW (mV 1) (dy 2 (aY (gN 3) (aY (gN 4) dE)))) (aF (jb (yP (eQ (bV (aL (ak g9 (ae (mV 3) aj))))) (eQ (bV (aL (ak jS (ae (mV 3) (ae (mV 2) (ae (mV 4) aj)))))))) (bE (mK (.bl c_))) dG) (bE (bX jI (aL (yQ (a7 (bP (aL (ak cO (ae (mV 2) aj)))) (dy 2 (aY (gN 0) (aY (gN 1) dE))) iB iD [none,none,ar 0,ar 4])))))))))
def cY:List D->M D:=qx 5 2 lu
def oZ:fe:=d5 inD (mV 2) (mV 1)
def o5:TM:=mV 0
def lz:fe:=eO
def lA:TM:=bX bY (aL (a7 (uG (mV 1)) (dy 2 (aY (gN 0) (aY (gN 1) dE))) oZ o5 [none,none,ar 0]))
def pX:cL:=aF (jb (eQ (bV (aL (ak eA (ae (mV 0) (ae (mV 1) aj)))))) (vR "NoSharing" (ae (mK (.str "this is no sharing of the web")) aj)) dG) (aF (cb 2 (aU b9 (mV 0) (mK (.int 0)))) (aF (cb 3 (aL (ak iM (ae (mV 2) (ae (mV 1) aj))))) (aF (Jp (cb 4 (aL (a7 (n5 (mV 2)) (gN 0) lz lA [none,ar 3])))) (bE (dz (ae (dz (ae (bX dj (mV 3)) (ae (bX bY (aL (bX bG (mV 4)))) aj))) (ae (bX bY (mV 4)) aj)))))))
def gJ:List D->M D:=qx 5 2 pX
def mD:fe:=d5 inD (mV 2) (mV 1)
def mE:TM:=mV 0
def jx:fe:=eO
def jz:TM:=bX bY (aL (a7 (uG (mV 1)) (dy 2 (aY (gN 0) (aY (gN 1) dE))) mD mE [none,none,ar 0]))
def gp:fe:=d5 Hy (bX dj (mV 0)) (mK (.int 2))
def gq:TM:=mV 0
def mF:cL:=aF (jb (eQ (bV (aL (ak cY (ae (mV 0) (ae (mV 1) aj)))))) (vR "NoRoot" (ae (mK (.str "this is no root paper of the web")) aj)) dG) (aF (qW (mV 1) (dy 2 (aY (gN 2) (aY (gN 3) dE)))) (aF (Jp (cb 4 (aL (a7 (n5 (aU b9 (mV 2) (mK (.int 0)))) (gN 0) jx jz [none,ar 3])))) (bE (aL (bX bG (aL (yQ (a7 (bP (mV 4)) (gN 0) gp gq [none]))))))))
def eX:List D->M D:=qx 5 2 mF
def dU(F:List D->M D):cL:=jb (bV (aL (ak gc (bg (mV 0) (bg (mV 1) (bg (mV 2) (bg (mV 4) aj))))))) (aF (cb 5 (aL (ak F (ae (mV 0) (ae (mV 1) (ae (aL (aU cW (mV 2) (dz (ae (mV 4) aj)))) aj)))))) (jb (d5 (zj (!·)) (mV 5) (mK .non)) (bE (mV 5)) dG)) dG
def dZ(F:List D->M D):cL:=aF (cb 3 (aU b9 (mV 0) (mK (.int 0)))) (aF (jb (d5 kH (bX dj (mV 2)) (mV 3)) (bE (mV 2)) dG) (aF (nz (n5 (mV 3)) (gN 4) (dU F)) (bE (mK .non))))
def b0:Nat->List D->M D
 |0=>λ_=>M.fail
 |n+1=>j9 6 3 (dZ (b0 n))
def fq:List D->M D:=b0 8
def ft(F:List D->M D):cL:=jb (bV (aL (ak gm (ae (mV 0) (ae (mV 1) (ae (mV 3) aj)))))) (nO (zI fK (mV 2) (aL (ak F (ae (mV 0) (ae (aL (aU cW (mV 1) (dz (ae (mV 3) aj)))) aj)))))) dG
def fF(F:List D->M D):cL:=aF (cb 2 (Ni (d5 Hy (bX dj (mV 1)) (mK (.int 2))) (cX (ae (mV 1) aj)) (cX aj))) (aF (nz (vN (aU cW (aU b9 (mV 1) (mK (.int (-1)))) (mK (.int 1))) (aU b9 (mV 0) (mK (.int 0)))) (gN 3) (ft F)) (bE (mV 2)))
def dw:Nat->List D->M D
 |0=>λ_=>M.fail
 |n+1=>j9 4 2 (fF (dw n))
def dO:List D->M D:=dw 9
def xX:cL:=aF (nO (aL (ak fE (ae (mV 0) (ae (mV 1) aj))))) (aF (jb (d5 mW (aL (bX bG (aL (ak fj (ae (mV 0) aj))))) (aL (bX bG (aL (ak fj (ae (mV 1) aj)))))) (bE (mK .non)) dG) (bE (aL (ak fq (ae (mV 0) (ae (mV 1) (ae (mK (.tup [])) aj)))))))
def mG:List D->M D:=qx 2 2 xX
def fZ(F:List D->M D):fe:=d5 kH (aL (ak aX (ae (mV 1) (ae (mV 0) aj)))) (mK (.int 0))
def f7(F:List D->M D):TM:=mV 0
def eB(F:List D->M D):cL:=jb (bV (aL (ak eV (ae (mV 1) (ae (mV 4) aj))))) (nO (zI fK (mV 3) (aL (ak F (ae (mV 0) (ae (aL (aU cW (mV 1) (aL (cX (ae (mV 4) aj))))) aj)))))) dG
def eI(F:List D->M D):cL:=aF (cb 2 (aL (a7 (bP (aU b9 (mV 0) (mK (.int 1)))) (gN 0) (fZ F) (f7 F) [none,ar 1]))) (aF (jb (eQ (bT (mV 2))) (bE (aL (cX (ae (mV 1) aj)))) dG) (aF (cb 3 (cX aj)) (aF (nz (bP (aL (ak dO (ae (mV 0) (ae (aU b9 (mV 2) (mK (.int 0))) aj))))) (gN 4) (eB F)) (bE (mV 3)))))
def cc:Nat->List D->M D
 |0=>λ_=>M.fail
 |n+1=>j9 5 2 (eI (cc n))
def fQ:List D->M D:=cc 9
def jA:cL:=aF (nO (aL (ak cK (ae (mV 0) aj)))) (bE (aL (ak fQ (ae (mV 0) (ae (aL (cX aj)) aj)))))
def bh:List D->M D:=qx 1 1 jA
def mH:cL:=aF (cb 1 (aL (ak bh (ae (mV 0) aj)))) (aF (jb (eQ (bT (mV 1))) (bE (mK .non)) dG) (bE (aL (ak gJ (ae (mV 0) (ae (aU b9 (mV 1) (mK (.int 0))) aj))))))
def eY:List D->M D:=qx 2 1 mH
def cP:cL:=aF (cb 5 (aL (ak gJ (ae (mV 1) (ae (mV 4) aj))))) (aF (jb (yP (d5 (zj (!·)) (aL (ak eA (ae (mV 1) (ae (mV 4) aj)))) (mK (.bl b_))) (d5 (zj (!·)) (aL (ak cY (ae (mV 1) (ae (mV 5) aj)))) (mK (.bl b_)))) (bE (mK (.bl c_))) dG) (jb (yP (d5 mW (aL (ak eX (ae (mV 1) (ae (mV 5) aj)))) (mV 4)) (d5 (zj id) (aL (ak mG (ae (aL (ak iX (ae (aU b9 (mV 5) (mK (.int 0))) aj))) (ae (mV 1) aj)))) (mK .non))) (bE (mK (.bl c_))) dG))
def fR:fe:=d5 xp (aL (ak aV (ae (mV 1) (ae (mK (.int 3)) aj)))) (mK (.int 0))
def fS:TM:=mV 0
def iQ:cL:=aF (Gr 2 3 (ae (aL (ak bh (ae (mV 1) aj))) (ae (aL (ak eY (ae (mV 1) aj))) aj))) (aF (jb (d5 mW (aU (zj id) (mV 3) (mK .non)) (aU kH (mV 2) (aL (cX aj)))) (bE (mK (.bl c_))) dG) (aF (nz (bP (mV 2)) (gN 4) cP) (aF (jb (d5 (zj id) (mV 3) (mK .non)) (bE (mK (.bl b_))) dG) (aF (jb (yP (d5 (zj (!·)) (aL (ak cY (ae (mV 1) (ae (mV 3) aj)))) (mK (.bl b_))) (d5 rX (aL (ak eX (ae (mV 1) (ae (mV 3) aj)))) (mV 2))) (bE (mK (.bl c_))) dG) (aF (cb 6 (bX bY (aL (a7 (n5 (aU b9 (mV 1) (mK (.int 0)))) (gN 0) fR fS [none,ar 0])))) (bE (aU mW (aL (ak bh (ae (aL (ak mB (ae (mV 1) (ae (mV 6) aj)))) aj))) (aL (cX aj)))))))))
def fu:List D->M D:=j9 7 2 iQ
def mI:cL:=aF (cb 2 (ak iN (ae (mV 0) (ae (mV 1) aj)))) (aF (cb 3 (aL (ak eG (ae (mV 2) (ae (mK (.int 7)) aj))))) (aF (cb 4 (aL (ak cI (ae (mV 3) (ae (aL (ak bb (ae (mV 2) (ae (aL (bX cD (aU b9 (mV 3) (mK (.int 0))))) aj)))) aj))))) (jb (yP (eQ (bV (aL (ak fu (ae (mV 2) (ae (mV 3) aj)))))) (d5 mW (bX dj (aL (ak bh (ae (mV 4) aj)))) (bX dj (aL (ak bh (ae (mV 3) aj)))))) (bE (mK (.bl c_))) dG)))
def Em:cL:=aF (nz (n5 (ak maxD (ae (mK (.int 1)) (ae (ak minD (ae (bX dj (mV 0)) (ae (mK (.int 6)) aj))) aj)))) (gN 1) mI) (bE (mK (.bl b_)))
def uK:List D->M D:=j9 5 1 Em
theorem o6:2<=lim:=by unfold lim;omega
theorem lD:gO S n (.int i)=ar (.int i):=by cases n<;>rfl
theorem mJ:gO S n (.bl b)=ar (.bool b):=by cases n<;>rfl
theorem eq_int{Q:D->aK->Prop}:runs (kH (.int a) (.int b)) S Q↔Q (.bl (decide (a=b))) S:=by
 unfold kH;rw[fh lD lD];have:eo (.int a) (.int b)=decide (a=b):=by simp only[eo];rw[O0];simp
 rw[this]
theorem qQ(l:List Bool):boolsOf (l.map D.bl)=ar l:=by
 induction l with
 |nil=>rfl
 |cons b l ih=>simp[boolsOf,ih]
theorem d4:(S++[xs])[S.length]? =ar xs:=by simp
theorem Lh{Q:D->aK->Prop}:runs (kH (.bl a) (.bl b)) S Q↔Q (.bl (a==b)) S:=by
 unfold kH;rw[fh mJ mJ];have:eo (.bool a) (.bool b)=(a==b):=by cases a<;>cases b<;>simp[eo]
 rw[this]
theorem lm(h:n<=1000):n<=lim:=by unfold lim;omega
theorem Cp{α:Type}(a:α):oM (aC a:M α)=aC a:=rfl
theorem bO{α:Type}(l:List α):l.filter (λ_=>b_)=l:=List.filter_eq_self.mpr λ_ _=>rfl
theorem cQ{m:cL}{ds:List D}(h:m (ds.map ar++k' (N - n) none)=aC o)(Z:outD o=aC d)(Y:ds.length=n:=by rfl):j9 N n m ds=aC d:=by unfold j9 qx;rw[if_pos Y];show(oM (m _)>>=outD)=_;rw[h,Cp,aq,Z]
theorem sI{m n:TM}(Z:m ρ=aC x)(Y:n ρ=aC y):vN m n ρ=mZ [x,y]:=by
 have:ae m (ae n aj) ρ=aC [x,y]:=by unfold ae;rw[Z,aq,Y,aq];rfl
 unfold vN;rw[this,aq]
theorem vU{m:TM}(Z:m ρ=aC x):n5 m ρ=pP [x]:=by
 have:ae m aj ρ=aC [x]:=by unfold ae;rw[Z,aq];rfl
 unfold n5;rw[this,aq]
theorem En(h: -(2 ^ 62)<=i/\i<2 ^ 62/\ -(2 ^ 62)<=j/\j<2 ^ 62):mZ [.int i,.int j]=aC ⟨bR i (j - i).toNat,.none⟩:=by unfold mZ;exact if_pos h
theorem GL(h: -(2 ^ 62)<=j/\j<2 ^ 62):pP [.int j]=aC ⟨bR 0 j.toNat,.none⟩:=by unfold pP;exact if_pos h
theorem bo{f:D->D->M D}{m n:TM}(Z:m ρ=aC x)(Y:n ρ=aC y):aU f m n ρ=f x y:=by unfold aU;rw[Z,aq,Y,aq]
theorem Eo{bs:List Bool}:xM [.fz (bs.map D.bl)]=aC (.bl (bs.any id)):=by show(match boolsOf (bs.map D.bl)with|some bs=>(aC (D.bl (bs.any id)):M D)|none=>M.fail)=_;rw[qQ]
theorem cU{f:List D->M D}{m:TM}(h:m ρ=aC x):bX f m ρ=f [x]:=by
 have:ae m aj ρ=aC [x]:=by unfold ae;rw[h,aq];rfl
 unfold bX ak;rw[this,aq]
theorem bS{m:TM}(h:m ρ=aC x):bE m ρ=aC (.ret x):=by unfold bE;rw[h];rfl
theorem sJ(bs:List Bool):df 0 (bs.map D.bl)=true:=by
 induction bs with
 |nil=>rfl
 |cons x r ih=>rw[On];unfold df;rw[ih];unfold gF;rfl
theorem jB{mi:aE->M Iter}{g:lR}{t:fe}{m:TM}(R:aE->Prop)(q:D->Bool)(f:D->D)(U:mi ρ=aC ⟨its,.none⟩)(Z:its.length<=lim)(W:R (iK js ρ))(Y:∀d∈its,∀ ρ,R ρ->∃ ρ1,g d ρ=aC ρ1/\R ρ1/\t ρ1=aC (q d)/\(q d=b_->m ρ1=aC (f d)))
  (X:df 0 ((its.filter q).map f)=b_):aL (a7 mi g t m js) ρ=aC (.fz ((its.filter q).map f)):=by
 have e:a7 mi g t m js ρ=bQ ((its.filter q).map f):=by unfold a7;rw[U,aq,AX R q f Z W Y,aq]
 unfold aL;rw[e];exact cw X (by rw[NM];exact NZ (Om _ _) Z)
section
variable {m n:cL}{ρ ρ':aE}{e e1 e2:TM}{x y d:D}{t:fe}{b:Bool}{o:Out}{N k:Nat}{ds:List D}{F:List D->M D}
theorem aI(h:m ρ=aC (.nx ρ')):aF m n ρ=n ρ':=by unfold aF;rw[h];rfl
theorem fG(h:m ρ=aC (.ret d)):aF m n ρ=aC (.ret d):=by unfold aF;rw[h];rfl
theorem zY(h:m ρ=M.raise x):aF m n ρ=M.raise x:=by unfold aF;rw[h];rfl
theorem hU(h:e ρ=aC x):nO e ρ=aC (.nx ρ):=by unfold nO;rw[h];rfl
theorem xY(h:e ρ=M.raise x):nO e ρ=M.raise x:=by unfold nO;rw[h];rfl
theorem cZ(h:e ρ=aC x):cb i e ρ=aC (.nx (ρ.set i (ar x))):=by unfold cb;rw[h];rfl
theorem b7(h:t ρ=aC b):jb t m n ρ=if b=b_ then m ρ else n ρ:=by unfold jb;rw[h];rfl
theorem bA{f:D->D->M D}(Y:e1 ρ=aC x)(Z:e2 ρ=aC y)(h:f x y=aC (.bl b)):d5 f e1 e2 ρ=aC b:=by unfold d5;rw[Y,aq,Z,aq,h];rfl
theorem cz(h:e ρ=aC x):ak F (ae e aj) ρ=F [x]:=cU h
theorem d7(h:e ρ=aC x):aL e ρ=aC x:=by unfold aL;rw[h];exact AW
theorem Nk(h:e ρ=M.raise x):aL e ρ=M.raise x:=by unfold aL;rw[h];exact Eg
theorem eZ(h:m (ds.map ar++k' (N - k) none)=aC o)(Y:outD o=aC d)(Z:ds.length=k:=by rfl):qx N k m ds=aC d:=by unfold qx;rw[if_pos Z,h,aq,Y]
theorem kA(h:m (ds.map ar++k' (N - k) none)=M.raise x)(Z:ds.length=k:=by rfl):qx N k m ds=M.raise x:=by unfold qx;rw[if_pos Z,h];rfl
end
theorem uL:oM (bQ us)=bQ us:=by
 funext S;unfold oM bQ;by_cases h:us.length<=lim
 ·rw[if_pos h]
 ·rw[if_neg h]
theorem xZ{mi:aE->M Iter}{g:lR}{t:fe}{m:TM}(R:aE->Prop)(q:D->Bool)(f:D->D)(U:mi ρ=aC ⟨its,.none⟩)(Z:its.length<=lim)(W:R (iK js ρ))(Y:∀d∈its,∀ ρ,R ρ->∃ ρ1,g d ρ=aC ρ1/\R ρ1/\t ρ1=aC (q d)/\(q d=b_->m ρ1=aC (f d)))
  (X:df 0 ((its.filter q).map f)=b_):aL (yQ (a7 mi g t m js)) ρ=aC (.fz ((its.filter q).map f)):=by
 have e:yQ (a7 mi g t m js) ρ=bQ ((its.filter q).map f):=by unfold yQ a7;rw[U,aq,AX R q f Z W Y,aq,uL]
 unfold aL;rw[e];exact cw X (by rw[NM];exact NZ (Om _ _) Z)
theorem call2{F:List D->M D}{e1 e2:TM}(Y:e1 ρ=aC x)(Z:e2 ρ=aC y):ak F (ae e1 (ae e2 aj)) ρ=F [x,y]:=by
 have:ae e1 (ae e2 aj) ρ=aC [x,y]:=by unfold ae;rw[Y,aq,Z,aq];rfl
 unfold ak;rw[this,aq]
theorem e9{e:TM}(h:e ρ=aC (.bl b)):bV e ρ=aC b:=by unfold bV;rw[h];rfl
theorem jC{us:List D}(h:us.length<=lim):bY [.fz us]=aC (.tup us):=by show bw us=_;unfold bw;rw[if_pos h]
section
variable {α β:Type}{c:M α}{f:α->M β}{S S1:aK}{a:α}
theorem aR(h:c S=ar (.ok a,S1)):(c>>=f) S=f a S1:=by show M.bnd c f S=_;unfold M.bnd;rw[h]
end
section
variable {m n:cL}{ρ ρ':aE}{e e1 e2:TM}{x y:D}{S S1 S2:aK}{c:M D}{f:D->List D->M D}{F:List D->M D}
theorem aZ(h:m ρ S=ar (.ok (.nx ρ'),S1)):aF m n ρ S=n ρ' S1:=aR h
theorem uM(h:e ρ S=ar (.ok x,S1)):nO e ρ S=ar (.ok (.nx ρ),S1):=aR h
theorem cg(h:e ρ S=ar (.ok x,S1)):cb i e ρ S=ar (.ok (.nx (ρ.set i (ar x))),S1):=aR h
theorem gr(h:e ρ S=ar (.ok x,S1)):bE e ρ S=ar (.ok (.ret x),S1):=aR h
theorem iR{us:List D}(h:us.length<=lim):bQ us S=ar (.ok (.lst S.length),S++[us]):=by unfold bQ;exact if_pos h
theorem gT(h:S[p]? =ar us):getL p S=ar (.ok us,S):=by unfold getL;rw[h];rfl
theorem m9{us:List D}(h:us.length<=lim)(Z:p<S.length):nL p us S=ar (.ok .non,S.set p us):=by unfold nL;exact if_pos ⟨h,Z⟩
theorem HH(X:e1 ρ=aC x)(Z:Ja x=aC ())(Y:e2 ρ=c):zI f e1 e2 ρ=c>>=λy=>f x [y]:=by unfold zI;rw[X,aq,Z,aq,Y,fg];rfl
theorem AZ(h:e ρ S=ar (.ok x,S1)):bX F e ρ S=F [x] S1:=by unfold bX ak;rw[aR (a:=[x]) (S1:=S1)];show(e ρ>>=_) S=_;rw[aR h];rfl
theorem Ep(Y:e1 ρ S=ar (.ok x,S1))(Z:e2 ρ S1=ar (.ok y,S2)):dz (ae e1 (ae e2 aj)) ρ S=ar (.ok (.tup [x,y]),S2):=by
 unfold dz;rw[aR (a:=[x,y]) (S1:=S2)]
 ·unfold bw;rw[if_pos (show[x,y].length<=lim from o6)];rfl
 ·show(e1 ρ>>=_) S=_;rw[aR Y];show(((e2 ρ>>=_)>>=_):M (List D)) S1=_;rw[aR (a:=[y]) (S1:=S2)]
  ·rfl
  ·rw[aR Z];rfl
end
theorem lE:gz ⟨its,.none⟩ g b [] ρ=aC (.nx ρ):=by unfold gz;rw[cJ];rfl
theorem sL{g:lR}{b:cL}(h:g d ρ=aC ρ1)(Z:b ρ1 S=ar (.ok (.nx ρ2),S1)):gz ⟨its,.none⟩ g b (d::ds) ρ S=gz ⟨its,.none⟩ g b ds ρ2 S1:=by rw[gz,cJ,aq,h,aq,aR Z]
theorem fy{m:cL}{ds:List D}(h:m (ds.map ar++k' (N - n) none) S=ar (.ok o,S1))(Z:outD o=aC d)(Y:ds.length=n:=by rfl):j9 N n m ds S=ar (.ok d,S1):=by
 unfold j9 qx;rw[if_pos Y,aR (a:=o) (S1:=S1),Z]
 ·rfl
 ·show oM (m _) S=_;unfold oM;rw[h]
theorem pY{mi:aE->M Iter}(Z:mi ρ=aC ⟨its,.none⟩)(h:gz ⟨its,.none⟩ g b its ρ S=ar (.ok o,S1)):nz mi g b ρ S=ar (.ok o,S1):=by unfold nz;rw[Z,aq];exact h
theorem NG:mW (.bl b) (.bl b)=aC (.bl c_):=bM λS=>by unfold mW;refine(fh mJ mJ).mpr ⟨?_,rfl⟩;cases b<;>rfl
theorem vV{bs:List Bool}:jI [.fz (bs.map D.bl)]=aC (.bl (bs.all id)):=by show(match boolsOf (bs.map D.bl)with|some bs=>(aC (D.bl (bs.all id)):M D)|none=>M.fail)=_;rw[qQ]
theorem bq{e:TM}{es:aE->M (List D)}(Y:e ρ=aC x)(Z:es ρ=aC ys):ae e es ρ=aC (x::ys):=by unfold ae;rw[Y,aq,Z];rfl
section
variable {e1 e2:TM}{f:D->D->M D}{x y:D}{S S1 S2:aK}{ρ:aE}{F:List D->M D}
theorem o7(Y:e1 ρ S=ar (.ok x,S1))(Z:e2 ρ S1=ar (.ok y,S2)):aU f e1 e2 ρ S=f x y S2:=by unfold aU;rw[aR Y,aR Z]
theorem dH{es:aE->M (List D)}(Y:e1 ρ S=ar (.ok x,S1))(Z:es ρ S1=ar (.ok ys,S2)):ae e1 es ρ S=ar (.ok (x::ys),S2):=by unfold ae;rw[aR Y,aR Z];rfl
theorem HI(h:S[p]? =ar us)(Z:kJ us j=ar x):b9 (.lst p) (.int j) S=ar (.ok x,S):=by show(getL p>>=λxs=>match kJ xs j with|some d=>(aC d:M D)|none=>M.fail) S=_;rw[aR (gT h),Z];rfl
theorem pZ{es:aE->M (List D)}(h:es ρ S=ar (.ok ys,S1))(Z:ys.length<=lim):cX es ρ S=ar (.ok (.lst S1.length),S1++[ys]):=by unfold cX;rw[aR h];exact iR Z
end
def zZ:D->Bool
 | .int _=>b_
 |_=>c_
abbrev GN(d:D):Prop:=Gm d=b_
def sM:D->Bool
 | .tup [_,_]=>b_
 |_=>c_
def gu(many:Int):D->Bool
 | .int i=>decide (0<=i) && decide (i<many)
 |_=>c_
def kB(many:Int):D->Bool
 | .tup [a,b]=>gu many a && (gu many b && match a,b with| .int i,.int j=>decide (i<j)|_,_=>c_)
 |_=>c_
def MW(d:D):Prop:=GN d/\∀ds,d= .tup ds->∀x∈ds,GN x
theorem nc(h:gu many d=b_):∃i,d= .int i/\0<=i/\i<many:=by
 cases d with
 |int i=>exact⟨i,rfl,by simpa [gu]using h⟩
 |_=>cases h
def vW:D->D->Bool
 | .tup xs,.tup ys=>match intsOf xs,intsOf ys with
  |some a,ar b=>HT.lexLt a b
  |_,_=>c_
 |_,_=>c_
def vX:List D->Bool
 |a::b::r=>vW a b && vX (b::r)
 |_=>b_
def A0(d:D):Prop:=∃ds ns,d= .tup ds/\intsOf ds=ar ns
theorem A1:∀l:List D,((l.zip (l.drop 1)).map λp=>vW p.1 p.2).all id=vX l
 |[]=>rfl
 |[_]=>rfl
 |a::b::r=>by
  have:=A1 (b::r);simp only[List.drop_succ_cons,L',z3,Re,RC,id]at this⊢;rw[vX, <-this]
theorem Jx(l:List D):S3.cutD l (ar 1) none=l.drop 1:=by
 unfold S3.cutD HT.sIx;cases l with
 |nil=>rfl
 |cons a r=>simp
def LZ(d:D):Prop:=GN d/\∀ds,d= .tup ds->∀x∈ds,GN x/\∀ts,x= .tup ts->∀t∈ts,MW t
def p9:D->Bool
 | .tup [.int many,.tup ties]=>decide (0<=many) && (decide (many<=14) && (ties.all (kB many) && vX ties))
 |_=>c_
theorem GO(h:kB many d=b_):∃i j,d= .tup [.int i,.int j]/\0<=i/\i<j/\j<many:=by
 unfold kB at h;split at h
 ·next a b=>
  simp only[h_]at h;obtain⟨Y,W,Z⟩:=h;obtain⟨i,rfl,X,T⟩:=nc Y;obtain⟨j,rfl,S,U⟩:=nc W;simp only[decide_eq_true_eq]at Z;exact⟨i,j,rfl,X,Z,U⟩
 ·cases h
theorem Cq(h:kB many d=b_):A0 d:=by obtain⟨i,j,rfl,_⟩:=GO h;exact⟨_,[i,j],rfl,rfl⟩
section
variable {many:Int}{d:D}{ρ:aE}{e1 e2:TM}{b:Bool}{y:D}
theorem and_eq(X:e1 ρ=aC (.bl b))(Y:b=b_->e2 ρ=aC y)(Z:b=c_->y= .bl c_):oJ e1 e2 ρ=aC y:=by
 unfold oJ;rw[X];cases b with
 |true=>exact Y rfl
 |false=>rw[Z rfl];rfl
theorem CQ{a b:Int}:kH (.int a) (.int b)=aC (.bl (decide (a=b))):=bM λS=>eq_int.mpr ⟨rfl,rfl⟩
theorem A2(h:GN d):dM [d]=aC (.bl (zZ d)):=by cases d<;>first|rfl|cases h
theorem sN(h:GN d):dg [d]=aC (.bl (sM d)):=by
 cases d with
 |tup ds=>
  refine cQ (bS (and_eq (b:=b_) rfl (λ_=>(bo (y:=.int 2) (cU (x:=.tup ds) rfl) rfl).trans CQ) (λe=>by cases e))) ?_;show aC (D.bl (decide ((ds.length:Int)=2)))=_
  match ds with
  |[]=>rfl
  |[_]=>rfl
  |[_,_]=>rfl
  |_::_::_::r=>rw[Ot (by simp only[r_];omega)];rfl
 |_=>first|rfl|cases h
theorem vY(h:GN d):fY [.int many,d]=aC (.bl (gu many d)):=by
 cases d with
 |int i=>
  refine cQ (bS (and_eq (b:=b_) ((cz rfl).trans (A2 h)) (λ_=>?_) (λe=>by cases e))) rfl;show(if decide (0<=i)=b_ then (aC (D.bl (decide (i<many))):M D)else aC (.bl c_))=aC (.bl (decide (0<=i) && decide (i<many)));by_cases h0:0<=i
  ·rw[if_pos (N1 h0),N1 h0,PP]
  ·rw[if_neg (by rw[N8];exact h0),Ot h0,P8]
 |_=>first|rfl|cases h
theorem A3(h:sM d=b_):∃a b,d= .tup [a,b]:=by
 unfold sM at h;split at h
 ·exact⟨_,_,rfl⟩
 ·cases h
theorem vZ{b:D}:kB many (.tup [a,b])=(gu many a && (gu many b && match a,b with| .int i,.int j=>decide (i<j)|_,_=>c_)):=rfl
theorem Er(h:MW d):kz [.int many,d]=aC (.bl (kB many d)):=by
 by_cases hp:sM d=b_
 ·obtain⟨a,b,rfl⟩:=A3 hp;have W:GN a:=h.2 _ rfl a (.head _);have X:GN b:=h.2 _ rfl b (.tail _ (.head _));refine cQ (o:=.ret (.bl (kB many (.tup [a,b])))) ?_ rfl;unfold sF;have Z:eQ (bV (ak dg (ae (mV 1) aj))) [ar (.int many),ar (.tup [a,b]),none,none]=aC false:=by
   show(bV _ _>>=_)=_;rw[e9 ((cz rfl).trans (sN h.1))];rfl
  refine(aI (ρ':=[ar (.int many),ar (.tup [a,b]),none,none]) ((b7 Z).trans (if_neg (by decide)))).trans ((aI (ρ':=[ar (.int many),ar (.tup [a,b]),ar a,ar b]) rfl).trans (bS ?_));refine and_eq (b:=gu many a) ((call2 rfl rfl).trans (vY W)) (λk1=>and_eq (b:=gu many b) ((call2 rfl rfl).trans (vY X)) (λk2=>?_) λk2=>?_) λk1=>?_
  ·obtain⟨i,rfl,_⟩:=nc k1;obtain⟨j,rfl,_⟩:=nc k2;rw[vZ,k1,k2];rfl
  ·rw[vZ,k2,P8,Bool.and_false]
  ·rw[vZ,k1,P8]
 ·have Y:sM d=false:=by rw[<-Qc];exact hp
  have Z:eQ (bV (ak dg (ae (mV 1) aj))) [ar (.int many),ar d,none,none]=aC true:=by show(bV _ _>>=_)=_;rw[e9 ((cz rfl).trans (sN h.1)),Y];rfl
  refine(cQ (o:=.ret (.bl c_)) (fG ((b7 Z).trans (if_pos rfl))) rfl).trans ?_;unfold kB;split
  ·cases hp rfl
  ·rfl
theorem Jy{a b:D}(Y:A0 a)(Z:A0 b):xq a b=aC (.bl (vW a b)):=by obtain⟨xs,ns,rfl,e1⟩:=Y;obtain⟨ys,ms,rfl,e2⟩:=Z;simp only[xq,e1,e2,vW]
def Nl:D->D
 | .tup [a,b]=>.bl (vW a b)
 |_=>.non
theorem Es(h:∀t∈ts,A0 t)(W:ts.length<=1000):cq [.tup ts]=aC (.bl (vX ts)):=by
 have em:(((ts.zip (ts.drop 1)).map λp:D×D=>D.tup [p.1,p.2]).filter λ_=>b_).map Nl=((ts.zip (ts.drop 1)).map λp=>vW p.1 p.2).map D.bl:=by rw[bO,Od,Od];rfl
 have hs:aL (DO (mV 0) (oS (mK (.int 1))) oN) [ar (.tup ts)]=aC (.tup (ts.drop 1)):=by refine d7 (?_ :bw (S3.cutD ts (ar 1) none)=_);rw[Jx];unfold bw;exact if_pos (by rw[Qa];unfold lim;omega)
 have X:DX (mV 0) (aL (DO (mV 0) (oS (mK (.int 1))) oN)) [ar (.tup ts)]=aC ⟨(ts.zip (ts.drop 1)).map λp:D×D=>D.tup [p.1,p.2],.none⟩:=by unfold DX;rw[bq (x:=.tup ts) rfl (bq hs rfl)];rfl
 have Z:=jB (g:=dy 2 (aY (gN 0) (aY (gN 1) dE))) (t:=jd) (m:=je) (js:=[none,none]) (λρ=>∃x y,ρ=[x,y]) (λ_=>b_) Nl X (by rw[NM,List.length_zip];unfold lim;omega) ⟨none,none,rfl⟩
  (λd hd ρ ⟨x,y,hρ⟩=>by subst hρ;obtain⟨⟨a,b⟩,Y,rfl⟩:=NY.mp hd;exact⟨_,rfl,⟨_,_,rfl⟩,rfl,λ_=>(bo (x:=a) (y:=b) rfl rfl).trans (Jy (h a (Qm Y).1) (h b (Pi (Qm Y).2)))⟩) (by rw[em];exact sJ _)
 rw[em]at Z;refine cQ (bS ((cU Z).trans vV)) ?_;rw[A1];rfl
theorem Et(h:LZ d)(T:∀m ts,d= .tup [m,.tup ts]->ts.length<=1000):g9 [d]=aC (.bl (p9 d)):=by
 by_cases hp:sM d=b_
 ·obtain⟨a,t,rfl⟩:=A3 hp;obtain⟨N,_⟩:=h.2 _ rfl a (.head _);obtain⟨Q,S⟩:=h.2 _ rfl t (.tail _ (.head _));refine cQ (o:=.ret (.bl (p9 (.tup [a,t])))) ?_ rfl;unfold sG;have R:eQ (bV (aL (ak dg (ae (mV 0) aj)))) [ar (.tup [a,t]),none,none]=aC false:=by
   show(bV _ _>>=_)=_;rw[e9 (d7 ((cz rfl).trans (sN h.1)))];rfl
  refine(aI (ρ':=[ar (.tup [a,t]),none,none]) ((b7 R).trans (if_neg (by decide)))).trans ((aI (ρ':=[ar (.tup [a,t]),ar a,ar t]) rfl).trans ?_);have hw:eQ (bV (aL (ak dM (ae (mV 1) aj)))) [ar (.tup [a,t]),ar a,ar t]=aC (!zZ a):=by show(bV _ _>>=_)=_;rw[e9 (d7 ((cz rfl).trans (A2 N)))];rfl
  have X:∀{p q:fe} {b:Bool} {ρ:aE},p ρ=aC b->yP p q ρ=if b=b_ then aC b_ else q ρ:=λ{p q b ρ} e=>by show(p ρ>>=_)=_;rw[e];rfl
  have no:∀{q:fe},yP (eQ (bV (aL (ak dM (ae (mV 1) aj))))) q [ar (.tup [a,t]),ar a,ar t]=aC b_->aF (jb (yP (eQ (bV (aL (ak dM (ae (mV 1) aj))))) q) (bE (mK (.bl c_))) dG) (bE (oJ (bX jI (aL (a7 (bP (mV 2)) (gN 0) jP jQ [none,ar 1]))) (aL (ak cq (ae (mV 2) aj))))) [ar (.tup [a,t]),ar a,ar t]=aC (.ret (.bl c_)):=λe=>fG ((b7 e).trans (if_pos rfl));by_cases ew:zZ a=b_
  ·cases a with
   | int many=>
    rw[ew]at hw;have W:eQ (zJ Gh Gh (mK (.int 0)) (mV 1) (mK (.int 14))) [ar (.tup [.int many,t]),ar (.int many),ar t]=aC (!(decide (0<=many) && decide (many<=14))):=by
     show(((if decide (0<=many)=b_ then (aC (D.bl (decide (many<=14))):M D)else aC (.bl c_))>>=n4)>>=_)=_;by_cases h0:0<=many
     ·rw[if_pos (N1 h0),N1 h0,PP];rfl
     ·rw[if_neg (by rw[N8];exact h0),Ot h0,P8];rfl
    by_cases hr:(decide (0<=many) && decide (many<=14))=b_
    ·rw [hr]at W;cases t with
     | tup ts=>
      have P:=T _ ts rfl;have L:yP (eQ (bV (aL (ak dM (ae (mV 1) aj))))) (yP (eQ (zJ Gh Gh (mK (.int 0)) (mV 1) (mK (.int 14)))) (eQ (bV (xA (mV 2) "tuple")))) [ar (.tup [.int many,.tup ts]),ar (.int many),ar (.tup ts)]=aC false:=by rw[X hw,if_neg (by decide),X W,if_neg (by decide)];rfl
      refine(aI ((b7 L).trans (if_neg (by decide)))).trans (bS ?_);have em:(ts.filter λ_=>b_).map (λd=>D.bl (kB many d))=(ts.map (kB many)).map D.bl:=by rw[bO,Od];rfl
      have hm:=jB (mi:=bP (mV 2)) (ρ:=[ar (.tup [.int many,.tup ts]),ar (.int many),ar (.tup ts)]) (g:=gN 0) (t:=jP) (m:=jQ) (js:=[none,ar 1]) (its:=ts) (λρ=>∃x,ρ=[x,ar (.int many)]) (λ_=>b_) (λd=>.bl (kB many d)) rfl (by unfold lim;omega) ⟨none,rfl⟩
       (λd hd ρ ⟨x,hρ⟩=>by subst hρ;exact⟨_,rfl,⟨_,rfl⟩,rfl,λ_=>d7 ((call2 (x:=.int many) (y:=d) rfl rfl).trans (Er (S ts rfl d hd)))⟩) (by rw[em];exact sJ _)
      rw[em]at hm;have U:(ts.map (kB many)).all id=ts.all (kB many):=by rw[Q4];rfl
      have Y:p9 (.tup [.int many,.tup ts])=(ts.all (kB many) && vX ts):=by show(decide (0<=many) && (decide (many<=14) && (ts.all (kB many) && vX ts)))=_;rw[<-Bool.and_assoc,hr,PP]
      rw[Y];refine and_eq (b:=ts.all (kB many)) ((cU hm).trans (vV.trans (by rw[U]))) (λZ=>?_) λZ=>by rw[Z];rfl
      rw[Z,PP];exact d7 ((cz rfl).trans (Es (λt Q=>Cq (Of.mp Z t Q)) P))
     |_=>first|exact no (by rw[X hw,if_neg (by decide),X W,if_neg (by decide)];rfl)|cases Q
    ·have Y:p9 (.tup [.int many,t])=false:=by
      cases t<;>first|rfl|(show(decide (0<=many) && (decide (many<=14) && _))=c_;rw[<-Bool.and_assoc,Qc _ |>.mp hr,P8])
     rw[Y];rw[Qc _ |>.mp hr]at W;exact no (by rw[X hw,if_neg (by decide),X W];rfl)
   |_=>cases ew
  ·have Y:p9 (.tup [a,t])=false:=by cases a<;>first|rfl|exact absurd rfl ew
   rw[Y];exact no (by rw[X hw,Qc _ |>.mp ew];rfl)
 ·have O:sM d=false:=by rw[<-Qc];exact hp
  have R:eQ (bV (aL (ak dg (ae (mV 0) aj)))) [ar d,none,none]=aC true:=by show(bV _ _>>=_)=_;rw[e9 (d7 ((cz rfl).trans (sN h.1))),O];rfl
  refine(cQ (o:=.ret (.bl c_)) (fG ((b7 R).trans (if_pos rfl))) rfl).trans ?_;unfold p9;split
  ·cases hp rfl
  ·rfl
end
def fb(S:aK)(k:Nat):Prop:=∃st b,S[k]? =ar [.int st,.bl b]/\0<=st/\(b=c_->st<2147483647)
theorem fb.lt{S:aK}{k:Nat}(h:fb S k):k<S.length:=let ⟨_,_,e,_⟩:=h;(NX.mp e).1
theorem Eu{t:fe}{m n:cL}{ρ:aE}{b:Bool}{S S1:aK}(h:t ρ S=ar (.ok b,S1)):jb t m n ρ S=if b=b_ then m ρ S1 else n ρ S1:=by show(t ρ>>=λc=>if c=b_ then m ρ else n ρ) S=_;rw[aR h];split<;>rfl
section
variable {S:aK}{k:Nat}{st x y many:Int}{b:Bool}{r:List (Option D)}{e1 e2:TM}{ρ:aE}
theorem Kb(e:S[k]? =ar [.int st,.bl b]):aU b9 (mV 0) (mK (.int 0)) (ar (.lst k)::r) S=ar (.ok (.int st),S):=HI e rfl
theorem qb(Y:e1 ρ S=ar (.ok (.int x),S))(Z:e2 ρ S=ar (.ok (.int y),S))(h:0<y):aU ny e1 e2 ρ S=ar (.ok (.int (x % y)),S):=
 (o7 Y Z).trans (Oh (if_pos h:(if 0<y then (aC (D.int (x % y)):M D)else M.fail)=_) S)
theorem sO(Y:e1 ρ S=ar (.ok (.int x),S))(Z:e2 ρ S=ar (.ok (.int y),S))(h:yT x y):aU vx e1 e2 ρ S=ar (.ok (.int (x*y)),S):=
 (o7 Y Z).trans (Oh (if_pos h:(if yT x y then (aC (D.int (x*y)):M D)else M.fail)=_) S)
theorem Ew(Y:e1 ρ S=ar (.ok (.int x),S))(Z:e2 ρ S=ar (.ok (.int y),S))(h:BJ x y):aU oC e1 e2 ρ S=ar (.ok (.int (x / y)),S):=
 (o7 Y Z).trans (Oh (if_pos h:(if BJ x y then (aC (D.int (x / y)):M D)else M.fail)=_) S)
theorem v5(Y:e1 ρ S=ar (.ok (.int x),S))(Z:e2 ρ S=ar (.ok (.int y),S)):aU cW e1 e2 ρ S=ar (.ok (.int (x+y)),S):=(o7 Y Z).trans rfl
theorem Li(e:S[k]? =ar [.int st,.bl b])(h:e1 (ar (.lst k)::r) S=ar (.ok (.int x),S)):qW e1 (LV (mV 0) (mK (.int 0))) (ar (.lst k)::r) S=ar (.ok (.nx (ar (.lst k)::r)),S.set k [.int x,.bl b]):=by
 have Z:lX (.lst k) (.int 0) (.int x) S=ar (.ok (),S.set k [.int x,.bl b]):=by show(getL k>>=_) S=_;rw[aR (gT e)];exact aR (m9 (us:=[.int x,.bl b]) o6 (NX.mp e).1)
 have Y:LV (mV 0) (mK (.int 0)) (.int x) (ar (.lst k)::r) S=ar (.ok (ar (.lst k)::r),S.set k [.int x,.bl b]):=aR Z;show(e1 _>>=_) S=_;rw[aR h];exact aR Y
theorem o8{m n:cL}{d:D}{S1:aK}(h:m ρ S=ar (.ok (.ret d),S1)):aF m n ρ S=ar (.ok (.ret d),S1):=aR h
end
theorem Jz{S:aK}{k:Nat}{many:Int}{Q:D->aK->Prop}(hs:fb S k)(Y:0<many)(L:many<1073741824)
  (T:∀j S',0<=j->j<many->S'.length=S.length->(∀i,i≠k->S'[i]? =S[i]?)->fb S' k->Q (.int j) S'):runs (aV [.lst k,.int many]) S Q:=by
 have R:=hs.lt;obtain⟨st,b,e,P,O⟩:=hs;have q:∀x:Int,0<=x % many/\x % many<many:=λx=>⟨QX _ (by omega),Qs _ Y⟩;have X:bV (aU b9 (mV 0) (mK (.int 1))) [ar (.lst k),ar (.int many),none,none] S=ar (.ok b,S):=aR (HI (x:=.bl b) e rfl);have Z:∀(ys:List D) i,i≠k->(S.set k ys)[i]? =S[i]? :=λys i N=>OV (lx N);cases b with
 |true=>
  refine⟨_,_,fy (o:=.ret (.int (st % many))) (S1:=S.set k [.int (st / many),.bl b_]) ?_ rfl,T _ _ (q _).1 (q _).2 (by simp) (Z _) ⟨_,b_,OX R,Int.ediv_nonneg P (by omega),λz=>by cases z⟩⟩;exact o8 ((Eu X).trans ((aZ (cg (qb (Kb e) rfl Y))).trans ((aZ (Li e (Ew (Kb e) rfl ⟨Y,L⟩))).trans (gr rfl))))
 |false=>
  have J:=O rfl;generalize hst:(st*48271+29) % 2147483647=st';have s1:0<=st':=by rw[<-hst];exact QX _ (by decide)
  have s2:st'<2147483647:=by rw[<-hst];exact Qs _ (by decide)
  have e1:(S.set k [.int st',.bl c_])[k]? =ar [.int st',.bl c_]:=OX R;have W:=Li (r:=[ar (.int many),none,none]) e (qb (v5 (sO (Kb e) (e2:=mK (.int 48271)) rfl (.inr ⟨by decide,by decide⟩)) (e2:=mK (.int 29)) rfl) (e2:=mK (.int 2147483647)) rfl (by decide));rw[hst]at W;have U:∀r,aU ny (aU cW (aU cW (aU vx (aU b9 (mV 0) (mK (.int 0))) (aU b9 (mV 0) (mK (.int 0)))) (aU vx (mK (.int 39373)) (aU b9 (mV 0) (mK (.int 0))))) (mK (.int 7))) (mK (.int 2147483629)) (ar (.lst k)::r) (S.set k [.int st',.bl c_])=_:=λr=>qb (v5 (v5 (sO (Kb e1) (Kb e1) (.inl ⟨by omega,by omega⟩)) (sO rfl (Kb e1) (.inl ⟨by decide,by decide⟩))) rfl) rfl (by decide);generalize hx:(st'*st'+39373*st'+7) % 2147483629=x at U;have K:0<=x:=by rw[<-hx];exact QX _ (by decide)
  have x2:x<2147483629:=by rw[<-hx];exact Qs _ (by decide)
  refine⟨_,_,fy (o:=.ret (.int ((x*x+16807*x) % 2147483587 / 8 % many))) (S1:=S.set k [.int st',.bl c_]) ?_ rfl,T _ _ (q _).1 (q _).2 (by simp) (Z _) ⟨_,c_,e1,s1,λ_=>s2⟩⟩;exact(aZ (Eu X)).trans ((aZ W).trans ((aZ (cg (U _))).trans ((aZ (cg (qb (v5 (sO rfl rfl (.inl ⟨by omega,by omega⟩)) (sO rfl rfl (.inl ⟨by decide,by decide⟩))) rfl (by decide)))).trans (gr (qb (Ew rfl rfl ⟨by decide,by decide⟩) rfl Y)))))
theorem JA{S:aK}{ns:List Int}{k:Nat}:∃i,eU [.ro (ns.map D.int),.int k] S=ar (.ok (.int i),S):=by
 have Z:d5 xq (mV 1) (bX dj (mV 0)) [ar (.ro (ns.map D.int)),ar (.int k)]=aC (decide ((k:Int)<(ns.map D.int).length)):=bA (x:=.int k) (y:=.int (ns.map D.int).length) rfl rfl rfl;by_cases h:k<ns.length
 ·refine⟨ns[k],fy (o:=.ret (.int ns[k])) (o8 ((Oh ((b7 Z).trans (if_pos (N1 (by rw[NM];omega)))) S).trans (gr (x:=.int ns[k]) (S1:=S) ?_))) rfl⟩;have e:kJ (ns.map D.int) (k:Int)=ar (.int ns[k]):=by
   unfold kJ yM;simp[h]
  show(match kJ (ns.map D.int) k with|some d=>(aC d:M D)|none=>M.fail) S=_;rw[e];rfl
 ·exact⟨0,fy (o:=.ret (.int 0)) (Oh ((aI ((b7 Z).trans (if_neg (by rw[N8,NM];omega)))).trans rfl) S) rfl⟩
theorem GP{S:aK}{ns:List Int}{k:Nat}{Q:D->aK->Prop}(X:∀xs,fb (S++[xs]) S.length->Q (.lst S.length) (S++[xs])):runs (iN [.ro (ns.map D.int),.int k]) S Q:=by
 obtain⟨c,U⟩:=JA (S:=S) (ns:=ns) (k:=k);have Y:cb 2 (ak eU (ae (mV 0) (ae (mV 1) aj))) [ar (.ro (ns.map D.int)),ar (.int k),none] S=ar (.ok (.nx [ar (.ro (ns.map D.int)),ar (.int k),ar (.int c)]),S):=cg (x:=.int c) (by rw[call2 (x:=.ro (ns.map D.int)) (y:=.int k) rfl rfl];exact U);have W:∀ ρ,aU Ds (mK (.int 10)) (mK (.int 18)) ρ=aC (.int 1000000000000000000):=λρ=>(bo (x:=.int 10) (y:=.int 18) rfl rfl).trans (if_pos (e:=M.fail) (show FU 10 18 from⟨by decide,by decide,by decide⟩));have Z:d5 Hy (mV 2) (aU Ds (mK (.int 10)) (mK (.int 18))) [ar (.ro (ns.map D.int)),ar (.int k),ar (.int c)]=aC (decide (1000000000000000000<=c)):=bA (x:=.int c) rfl (W _) rfl;by_cases h:1000000000000000000<=c
 ·exact⟨_,_,fy (o:=.ret (.lst S.length)) ((aZ Y).trans (o8 ((Oh ((b7 Z).trans (if_pos (N1 h))) S).trans (gr (pZ (ys:=[.int (c - 1000000000000000000),.bl b_]) (dH (S1:=S) (Oh ((bo (x:=.int c) rfl (W _)).trans rfl) S) (dH rfl rfl)) o6))))) rfl,X _ ⟨_,b_,d4,by omega,λz=>by cases z⟩⟩
 ·exact⟨_,_,fy (o:=.ret (.lst S.length)) ((aZ Y).trans ((aZ (Oh ((b7 Z).trans (if_neg (by rw[N8];exact h))) S)).trans (gr (pZ (ys:=[.int (c % 2147483647),.bl c_]) (dH (qb rfl rfl (by decide)) (dH rfl rfl)) o6)))) rfl,X _ ⟨_,c_,d4,QX _ (by decide),λ_=>Qs _ (by decide)⟩⟩
def lF(n a:Nat):List (List Int):=(hO (a+1) (n - (a+1))).map λb:Nat=>[(a:Int),(b:Int)]
def bB(n:Nat):List (List Int):=(dq n).flatMap (lF n)
theorem Ri(Z:n<=14):(bB n).length<=91:=by
 have:∀m,m<15->(bB m).length<=91:=by decide+kernel
 exact this n (by omega)
theorem GQ(Z:n<=14):(lF n a).length<=14:=by unfold lF;simp;omega
structure Kp(k:Nat)(S S':aK):Prop where
 len:S.length<=S'.length
 oth:∀i,i<S.length->i≠k->S'[i]? =S[i]?
 st:fb S' k
theorem Kp.trans(a:Kp k S S1)(b:Kp k S1 S2):Kp k S S2:=⟨NZ a.len b.len,λi Y Z=>(b.oth i (Oe Y a.len) Z).trans (a.oth i Y Z),b.st⟩
theorem Kp.refl(h:fb S k):Kp k S S:=⟨NQ _,λ_ _ _=>rfl,h⟩
theorem fb.grow(h:fb S k):fb (S++G) k:=by obtain⟨st,b,e,r⟩:=id h;exact⟨st,b,by rw[Os h.lt];exact e,r⟩
theorem Kp.grow(h:fb S k)(G:aK):Kp k S (S++G):=⟨by simp,λi Z _=>Os Z,h.grow⟩
theorem GS{Q:D->aK->Prop}(hs:fb S k)(U:0<many)(Y:many<1073741824)(X:∀j Z,0<=j->j<many->Z.length=S.length->Kp k S Z->Q (.int j) Z):runs (aV [.lst k,.int many]) S Q:=
 Jz hs U Y λj Z a b c d e=>X j Z a b c ⟨P4 c.symm,λi _ W=>d i W,e⟩
theorem ng:∀ns:List Int,mapP (gO S n) (ns.map D.int)=ar (ns.map mj)
 |[]=>rfl
 |x::r=>by
  show(match gO S n (D.int x),mapP (gO S n) (r.map D.int)with|some p,ar ps=>ar (p::ps)|_,_=>none)=_;rw[lD,ng r];rfl
theorem Ex{ns:List Int}(h:S[k]? =ar (ns.map D.int)):gO S (n+1) (.lst k)=ar (.list (ns.map mj)):=by show((S[k]?).bind λxs=>(mapP (gO S n) xs).map pd)=_;rw[h];show(mapP (gO S n) (ns.map D.int)).map pd=_;rw[ng];rfl
theorem uN{α Z:Type}(f:α->Z):∀(l:List α) (i:Nat),(l.map f).eraseIdx i=(l.eraseIdx i).map f
 |[],_=>rfl
 |_::_,0=>rfl
 |a::l,i+1=>by simp[uN f l i]
def iE(r:List Int):PyData:=.tuple (r.map mj)
theorem jY(r:List Int):gO S (n+1) (tupI r)=ar (iE r):=by show(mapP (gO S n) (r.map D.int)).map wM=_;rw[ng];rfl
theorem iY:∀rs:List (List Int),mapP (gO S (n+1)) (rs.map tupI)=ar (rs.map iE)
 |[]=>rfl
 |x::r=>by
  show(match gO S (n+1) (tupI x),mapP (gO S (n+1)) (r.map tupI)with|some p,ar ps=>ar (p::ps)|_,_=>none)=_;rw[jY,iY r];rfl
theorem Ey{rs:List (List Int)}(h:S[k]? =ar (rs.map tupI)):gO S (n+2) (.lst k)=ar (.list (rs.map iE)):=by show((S[k]?).bind λxs=>(mapP (gO S (n+1)) xs).map pd)=_;rw[h];show(mapP (gO S (n+1)) (rs.map tupI)).map pd=_;rw[iY];rfl
theorem GT{rs:List (List Int)}{Q:D->aK->Prop}(h:S[k]? =ar (rs.map tupI))(Z:∀b,Q (.bl b) S):runs (inD (tupI r) (.lst k)) S Q:=by unfold inD;rw[oK (jY r) (Ey h) rfl];exact Z _
theorem Lj{Q:D->aK->Prop}(Z:∀b,Q (.bl b) S):runs (mW (.bl a) (.bl b)) S Q:=by unfold mW;rw[fh mJ mJ];exact Z _
theorem fc(ns:List Int):intsOf (ns.map D.int)=ar ns:=by
 induction ns with
 |nil=>rfl
 |cons x r ih=>simp[intsOf,ih]
theorem sP(rs:List (List Int)):rowsOf (rs.map tupI)=ar rs:=by
 induction rs with
 |nil=>rfl
 |cons x r ih=>
  show(match intsOf (x.map D.int),rowsOf (r.map tupI)with|some ns,ar nss=>ar (ns::nss)|_,_=>none)=_;rw[fc,ih]
structure WebOk(many:Int)(ts:List (List Int)):Prop where
 el:∀t∈ts,∃a b:Int,t=[a,b]/\0<=a/\a<b/\b<many
 ris:ts.Pairwise λa b=>HT.lexLt a b=b_
 few:ts.length<=21
theorem sQ:∀t∈bB n,∃a b:Int,t=[a,b]/\0<=a/\a<b/\b<n:=by intro t Y;unfold bB at Y;obtain⟨a,W,X⟩:=Oy.mp Y;unfold lF at X;obtain⟨b,Z,rfl⟩:=NY.mp X;rw[O2]at Z;rw[N0]at W;exact⟨a,b,rfl,by omega,by omega,by omega⟩
theorem uO(Z:n<=7):(bB n).Pairwise (λa b=>HT.lexLt a b=b_)/\(bB n).length<=21:=by
 have:∀m,m<8->(bB m).Pairwise (λa b=>HT.lexLt a b=b_)/\(bB m).length<=21:=by decide+kernel
 exact this n (by omega)
theorem WebOk.of_sub(Y:n<=7){Z:List (List Int)}(h:Z.Sublist (bB n)):WebOk n Z:=
 ⟨λt X=>sQ t (h.subset X),O3 h (uO Y).1,NZ h.length_le (uO Y).2⟩
theorem uP{Z:List (List Int)}(h:Z.Pairwise λa b=>HT.lexLt a b=b_):bc Z=Z:=
 m3 (bx Z) (gh Z) (h.imp λz=>ku z)
theorem Cs:vW (tupI a) (tupI b)=HT.lexLt a b:=by simp only[vW,tupI,fc]
theorem x8:∀{ts:List (List Int)},ts.Pairwise (λa b=>HT.lexLt a b=b_)->vX (ts.map tupI)=b_
 |[],_=>rfl
 |[_],_=>rfl
 |a::b::r,h=>by
  obtain⟨Y,Z⟩:=Oa.mp h;show(vW (tupI a) (tupI b) && vX ((b::r).map tupI))=b_;rw[Cs,Y b (by simp),x8 Z];rfl
theorem v7(U:0<=many)(Z:many<=14)(w:WebOk many ts):p9 (.tup [.int many,.tup (ts.map tupI)])=true:=by
 have:(ts.map tupI).all (kB many)=true:=by rw[Q4,Of];intro t W;obtain⟨a,b,rfl,X,T,Y⟩:=w.el t W;simp[tupI,kB,gu,X,T,Y];omega
 simp only[p9,U,Z,this,x8 w.ris,decide_true,Bool.and_self]
structure Good(d:D):Prop where
 nr:LZ d
 few:∀m ts,d= .tup [m,.tup ts]->ts.length<=18
theorem Lk{xs:List D}{j:Int}(X:0<=j)(Y:j<xs.length):∃d,kJ xs j=ar d/\d∈xs:=by
 have Z:j.toNat<xs.length:=by omega
 refine⟨xs[j.toNat],?_,Pf Z⟩;unfold kJ yM;simp[X,Y,Z]
section
variable {d:D}
theorem Ez(h:LZ d)(Y:∀m ts,d= .tup [m,.tup ts]->ts.length<=1000):bN [d]=if p9 d=b_ then aC .non else M.raise (.exc "NoWeb" []):=by
 have Z:eQ (bV (aL (ak g9 (ae (mV 0) aj)))) [ar d]=aC (!p9 d):=by show(bV _ _>>=_)=_;rw[e9 (b:=p9 d) (d7 ((cz rfl).trans (Et h Y)))];rfl
 cases hw:p9 d with
 |true=>exact(eZ ((b7 Z).trans (by rw[hw];exact if_neg (by decide))) rfl).trans (if_pos rfl).symm
 |false=>exact(kA ((b7 Z).trans (by rw[hw];exact if_pos rfl))).trans (if_neg (by decide)).symm
end
def Nm(n:Nat):D->List D
 | .int a=>(lF n a.toNat).map tupI
 |_=>[]
theorem GU(n a:Nat):((bR ((a:Int)+1) ((n:Int) - ((a:Int)+1)).toNat).filter λ_=>b_).flatMap (λd=>[D.tup [.int a,d]])=(lF n a).map tupI:=by
 have e:((n:Int) - ((a:Int)+1)).toNat=n - (a+1):=by omega
 rw[e,bO];unfold bR lF;rw[Rj,Od,Od,List.flatMap_map]
 induction (dq (n - (a+1)))with
 |nil=>rfl
 |cons x l ih=>rw[O4,ih];rfl
theorem GV(n:Nat):((bR 0 n).filter λ_=>b_).flatMap (Nm n)=(bB n).map tupI:=by rw[bO];unfold bR bB;rw[List.flatMap_map,QK];congr 1;funext a;show(lF n (0+(a:Int)).toNat).map tupI=_;congr 2;omega
theorem bt(l:List (List Int)):df 0 (l.map tupI)=true:=by
 have h:∀r:List Int,df 0 (r.map D.int)=true:=λr=>by
  induction r with
  |nil=>rfl
  |cons x r ih=>rw[On];unfold df;rw[ih];unfold gF;rfl
 induction l with
 |nil=>rfl
 |cons x l ih=>rw[On];unfold df;rw[ih];unfold tupI gF;rw[h];rfl
theorem x9(Z:n<=50):(bB n).length<=2500:=by
  have:∀l:List Nat,(l.flatMap (lF n)).length<=l.length*50:=λl=>by
    induction l with
    |nil=>exact NQ 0
    | cons x l ih => rw[O4,NP,Ou,PM];have:(lF n x).length<=50:=by unfold lF;simp;omega
                     omega
  have:=this (dq n);rw[Oc]at this;unfold bB;exact NZ this (Nat.mul_le_mul_right 50 Z)
theorem Ll{n a:Nat}(T:n<=50)(U:a<n)(y:Option D):∃ ρ2,(∃x y,ρ2=[x,y,ar (.int n)])/\Jv (vN (aU cW (mV 0) (mK (.int 1))) (mV 2)) (gN 1) dN cH [ar (.int a),y,ar (.int n)]=aC ((lF n a).map tupI,ρ2):=by
 obtain⟨ρ',⟨Z,rfl⟩,e⟩:=AY (its:=bR ((a:Int)+1) ((n:Int) - ((a:Int)+1)).toNat) (g:=gN 1) (t:=dN) (bd:=Cg cH) (λρ=>∃y,ρ=[ar (.int a),y,ar (.int n)]) (λ_=>b_) (λd=>[D.tup [.int a,d]]) (bR ((a:Int)+1) ((n:Int) - ((a:Int)+1)).toNat) [ar (.int a),y,ar (.int n)] ⟨y,rfl⟩ λd hd ρ ⟨y,hρ⟩=>by
  subst hρ;refine⟨_,rfl,rfl,λ_=>⟨[ar (.int a),ar d,ar (.int n)],⟨_,rfl⟩,?_⟩,λh=>by cases h⟩;have:cH [ar (.int a),ar d,ar (.int n)]=aC (.tup [.int a,d]):=by show bw [.int a,d]=_;unfold bw;exact if_pos o6
  show(cH [ar (.int a),ar d,ar (.int n)]>>=_)=_;rw[this];rfl
 refine⟨[ar (.int a),Z,ar (.int n)],⟨ar (.int a),Z,rfl⟩,?_⟩;have Y: -(2 ^ 62)<=(a:Int)+1/\(a:Int)+1<2 ^ 62/\ -(2 ^ 62)<=(n:Int)/\(n:Int)<2 ^ 62:=by omega
 have W:(bR ((a:Int)+1) ((n:Int) - ((a:Int)+1)).toNat).length<=3000:=by unfold bR;simp;omega
 rw[GU]at e;have X:vN (aU cW (mV 0) (mK (.int 1))) (mV 2) [ar (.int a),y,ar (.int n)]=aC ⟨bR ((a:Int)+1) ((n:Int) - ((a:Int)+1)).toNat,.none⟩:=by exact(sI (bo (x:=.int a) (y:=.int 1) rfl rfl) (y:=.int n) rfl).trans (En Y)
 unfold Jv;rw[X,aq];dsimp only;rw[if_pos W];exact e
theorem A4{n:Nat}(U:n<=50):iF (cO [.int n])=aC (.fz ((bB n).map tupI)):=by
 obtain⟨ρ',_,e⟩:=AY (its:=bR 0 n) (g:=gN 0) (t:=fB) (bd:=Jv (vN (aU cW (mV 0) (mK (.int 1))) (mV 2)) (gN 1) dN cH) (λρ=>∃x y,ρ=[x,y,ar (.int n)]) (λ_=>b_) (Nm n) (bR 0 n) [none,none,ar (.int n)] ⟨none,none,rfl⟩ λd hd ρ ⟨x,y,hρ⟩=>by subst hρ;obtain⟨a,S,rfl⟩:=NY.mp hd;have Y:=N0.mp S;refine⟨_,rfl,rfl,λ_=>?_,λh=>by cases h⟩;obtain⟨W,Z,X⟩:=Ll U Y y;refine⟨W,Z,?_⟩;show Jv _ _ _ _ [ar (.int (0+(a:Int))),y,ar (.int n)]=_;rw[Q5,X];rfl
 rw[GV]at e;have T: -(2 ^ 62)<=(n:Int)/\(n:Int)<2 ^ 62:=by omega
 have R:(bR 0 n).length<=3000:=by unfold bR;simp;omega
 have Z:pT (n5 (mV 0)) (gN 0) fB (vN (aU cW (mV 0) (mK (.int 1))) (mV 2)) (gN 1) dN cH [none,none,ar 0] [ar (.int n)]=bQ ((bB n).map tupI):=by
  have O:n5 (mV 0) [ar (.int n)]=aC ⟨bR 0 n,.none⟩:=by have:=(vU (m:=mV 0) (ρ:=[ar (.int n)]) (x:=.int n) rfl).trans (GL T);rw[OS]at this;exact this
  have Q:iK [none,none,ar 0] [ar (D.int n)]=[none,none,ar (.int n)]:=rfl;unfold pT;rw[O,aq];dsimp only;rw[if_pos R,Q,e,aq]
 have X:bE (aL (pT (n5 (mV 0)) (gN 0) fB (vN (aU cW (mV 0) (mK (.int 1))) (mV 2)) (gN 1) dN cH [none,none,ar 0])) [ar (.int n)]=aC (.ret (.fz ((bB n).map tupI))):=by unfold bE aL;rw[Z,cw (bt _) (by rw[NM];exact NZ (x9 U) (by unfold lim;omega))];rfl
 have P:cO [.int n]=aC (.fz ((bB n).map tupI)):=by exact cQ X rfl
 rw[P];exact AW
abbrev aw(n:Nat)(E:List (List Int)):D:=.tup [.int n,.tup (E.map tupI)]
theorem z5:LZ (aw n E):=by
 refine⟨rfl,?_⟩;intro ds e x Z;cases e;simp only[eu,ee,or_false]at Z;rcases Z with rfl|rfl
 ·exact⟨rfl,λX e=>by cases e⟩
 ·refine⟨rfl,λX e t Y=>?_⟩;cases e;obtain⟨r,_,rfl⟩:=NY.mp Y;refine⟨rfl,λds e x Z=>?_⟩;cases e;obtain⟨i,_,rfl⟩:=NY.mp Z;exact rfl
theorem v8{n:Nat}{E:List (List Int)}(w:WebOk n E):∀m Z,aw n E= .tup [m,.tup Z]->Z.length<=1000:=by intro m Z e;cases e;have:=w.few;rw[NM];omega
def great(a:Nat):D:=.exc "TooGreat" [.int a,.int 7]
theorem Lm{n:Nat}{E:List (List Int)}(W:n<=14)(w:WebOk n E):eH [aw n E]=if 7<E.length then M.raise (great E.length)else aC .non:=by
 have hw:p9 (aw n E)=true:=v7 (by omega) (by omega) w;have h0:bN [aw n E]=aC .non:=by rw[Ez z5 (v8 w),if_pos hw]
 have Z:bX dj (aU b9 (mV 0) (mK (.int 1))) [ar (aw n E)]=aC (.int E.length):=by refine(cU (x:=.tup (E.map tupI)) rfl).trans ?_;show aC (D.int (E.map tupI).length)=_;rw[NM]
 have Y:d5 xp (bX dj (aU b9 (mV 0) (mK (.int 1)))) (mK (.int 7)) [ar (aw n E)]=aC (decide (7<(E.length:Int))):=bA Z rfl rfl;have hm:fP [ar (aw n E)]=if 7<E.length then M.raise (great E.length)else aC (.nx [ar (aw n E)]):=by
  unfold fP;rw[aI (hU (d7 ((cz rfl).trans h0))),b7 Y];by_cases h:7<E.length
  ·rw[if_pos h,if_pos (N1 (by omega))];have X:ae (bX dj (aU b9 (mV 0) (mK (.int 1)))) (ae (mK (.int 7)) aj) [ar (aw n E)]=aC [.int E.length,.int 7]:=by
    unfold ae;rw[Z];rfl
   unfold oR;rw[X];rfl
  ·rw[if_neg h,if_neg (by rw[N8];omega)]
 by_cases h:7<E.length
 ·rw[if_pos h]at hm⊢;exact kA hm
 ·rw[if_neg h]at hm⊢;exact eZ hm rfl
section
variable {S S':aK}{k:Nat}
theorem rq(Z:Kp k S S'):qF S S':=λi xs Y e=>by
 by_cases h:i=k
 ·subst h;obtain⟨st,b,e2,_⟩:=Z.st;rw[e2]at e;cases e;exact .inr rfl
 ·exact .inl (by rw[<-Z.oth i Y h];exact e)
theorem A5(hs:fb S k)(Y:Kp k S S'):Kp k S (S'.take S.length)/\(S'.take S.length).length=S.length:=by
 have X:(S'.take S.length).length=S.length:=by rw[OO];have:=Y.len;omega
 have W:∀i,i<S.length->(S'.take S.length)[i]? =S'[i]? :=λi Z=>by rw[P2,if_pos Z]
 refine⟨⟨P4 X.symm,λi Z U=>(W i Z).trans (Y.oth i Z U),?_⟩,X⟩;obtain⟨st,b,e,r⟩:=Y.st;exact⟨st,b,(W k hs.lt).trans e,r⟩
theorem uQ{c:M D}(hs:fb S k)(h:c S=ar (.ok d,S'))(Z:Kp k S S')(Y:gF 0 d=b_):∃S1,iF c S=ar (.ok d,S1)/\Kp k S S1/\S1.length=S.length:=
 ⟨_,pU h (rq Z) (.inr rfl) Z.len (zW d (Ef (Og _) d Y)),A5 hs Z⟩
theorem sR:gF 0 (aw n E)=true:=by unfold aw gF df gF df gF;rw[bt];rfl
theorem A6(hs:fb S k)(X:0<many)(Y:many<1073741824):∃j S1,iF (aV [.lst k,.int many]) S=ar (.ok (.int j),S1)/\0<=j/\j<many/\Kp k S S1/\S1.length=S.length:=by obtain⟨d,S',e,j,rfl,a,b,Z⟩:=GS (Q:=λd S'=>∃j,d= .int j/\0<=j/\j<many/\Kp k S S') hs X Y λj S' a b _ Z=>⟨j,rfl,a,b,Z⟩;obtain⟨S1,e1,k1⟩:=uQ hs e Z rfl;exact⟨j,S1,e1,a,b,k1⟩
end
theorem z6(h:n<=k)(Z:S[k]? =ar us)(Y:df 0 us=b_):m6 n (FI S n (f+1)) (.lst k)=ar (.fz us):=by unfold m6;rw[if_neg (by omega)];show((S[k]?).bind λxs=>lN n (FI S n f) xs).map D.fz=_;rw[Z,Option.bind_some,jN us (lb (Og _) us Y)];rfl
theorem Ln{S G:aK}(i:Nat):(S++G)[S.length+i]? =G[i]? :=by rw[O9 (Nat.le_add_right _ _),Nat.add_sub_cancel_left]
section
variable {ρ:aE}{js:List Nat}{ds:List D}{m:TM}{c:M D}{R:M D->List D->M D}{x:D}
end
section
variable {me e:TM}{g:lR}{ρ ρ':aE}{S S1 S2:aK}{d:D}{F:List D->M D}{x y:D}
end
section
variable {S S1 S2:aK}{k p q:Nat}{e1 e2:TM}{ρ:aE}{x y:D}{f:D->List D->M D}{xs:List D}
theorem ya(X:e1 ρ=aC x)(Z:Ja x=aC ())(Y:e2 ρ S=ar (.ok y,S1)):zI f e1 e2 ρ S=f x [y] S1:=by unfold zI;rw[X,aq,Z,aq,aR (a:=[y]) (S1:=S1)];rw[aR Y];rfl
theorem EB(Z:S[p]? =ar xs)(Y:xs.length<=1000):gf (.lst p) [d] S=ar (.ok .non,S.set p (xs++[d])):=by show(getL p>>=λxs=>nL p (xs++[d])) S=_;rw[aR (gT Z)];exact m9 (by rw[NP];show xs.length+1<=lim;unfold lim;omega) (NX.mp Z).1
theorem pop_at{j:Int}{d:D}(Z:S[p]? =ar xs)(U:xs.length<=1000)(W:0<=j)(Y:j<xs.length)(X:xs[j.toNat]? =ar d):pN (.lst p) [.int j] S=ar (.ok d,S.set p (xs.eraseIdx j.toNat)):=by show(getL p>>=λxs=>if 0<=j/\j<xs.length then (match xs[j.toNat]? with|some y=>(do let _<-nL p (xs.eraseIdx j.toNat);aC y)|none=>M.fail)else M.fail) S=_;rw[aR (gT Z),if_pos ⟨W,Y⟩,X];show(nL p (xs.eraseIdx j.toNat)>>=λ_=>aC d) S=_;rw[aR (m9 (by have:=List.length_eraseIdx_le xs j.toNat;unfold lim;omega) (NX.mp Z).1)];rfl
theorem JB{ns:List Int}(Y:S[p]? =ar (ns.map D.int)):mW (.lst p) (.fz []) S=ar (.ok (.bl (!ns.isEmpty)),S):=by
 have X:gO S 60 (.fz [])=ar (.list []):=rfl;obtain⟨d,Z,e,h⟩:=(fh (f:=λp q=> !eo p q) (Q:=λd Z=>d= .bl (!ns.isEmpty)/\Z=S) (Ex (n:=59) Y) X).mpr ⟨by
  have:eo (.list (ns.map mj)) (.list [])=ns.isEmpty:=by cases ns<;>simp[eo,ly]
  rw[this],rfl⟩
 obtain⟨rfl,rfl⟩:=h;exact e
end
theorem Kp.set(Z:Kp k S S')(U:S.length<=p)(W:k<S.length):Kp k S (S'.set p xs):=by
 refine⟨by rw[Ry];exact Z.len,λi X Y=>?_,?_⟩
 ·rw[OV (by omega)];exact Z.oth i X Y
 ·obtain⟨st,b,e,r⟩:=Z.st;exact⟨st,b,by rw[OV (by omega)];exact e,r⟩
theorem z7{l:List Int}(h:j<l.length):(l[j]::l.eraseIdx j).Perm l:=by
 induction l generalizing j with
 |nil=>cases h
 |cons x l ih=>
  cases j with
  |zero=>exact .refl _
  |succ j=>exact(List.Perm.swap _ _ _).trans ((ih (by simpa using h)).cons _)
theorem MX{j:Int}(h: -(2 ^ 62)<=j/\j<=lim):cD [.int j]=bQ (bR 0 j.toNat):=by unfold cD;exact if_pos h
theorem gU(r:List Int):df 0 (r.map D.int)=true:=by
 induction r with
 |nil=>rfl
 |cons x r ih=>rw[On];unfold df;rw[ih];unfold gF;rfl
def eE(n:Nat):List Int:=(dq n).map λi:Nat=>(0:Int)+(i:Int)
inductive Dr(P:D->D->Prop):List D->List D->Prop
 |nil:Dr P [] []
 |skip {d:D} {ds ys:List D}:Dr P ds ys->Dr P (d::ds) ys
 |put {d y:D} {ds ys:List D}:P d y->Dr P ds ys->Dr P (d::ds) (y::ys)
theorem Dr.len:∀{ds ys:List D},Dr P ds ys->ys.length<=ds.length
 |_,_,.nil=>NQ _
 |_,_,.skip h=>Nat.le_succ_of_le h.len
 |_,_,.put _ h=>PV h.len
theorem Dr.cl{P:D->D->Prop}(Z:∀d y,P d y->gF 0 y=b_):∀{ds ys:List D},Dr P ds ys->df 0 ys=b_
 |_,_,.nil=>rfl
 |_,_,.skip h=>h.cl Z
 |_,_,.put p h=>by unfold df;rw[Z _ _ p,h.cl Z];rfl
theorem nS{g:lR}{t:aE->M Bool}{m:TM}(R:aE->Prop)(P:D->D->Prop):∀(items:List D) (ρ:aE) (S:aK),R ρ->fb S k->
  (∀d∈items,∀ ρ S,R ρ->fb S k->∃Z b S1,g d ρ=aC Z/\R Z/\t Z S=ar (.ok b,S1)/\Kp k S S1/\S1.length=S.length/\(b=b_->∃y S2,m Z S1=ar (.ok y,S2)/\P d y/\Kp k S1 S2/\S2.length=S1.length))->
  ∃ys S2,c0 ⟨its,.none⟩ g t m items ρ S=ar (.ok ys,S2)/\Dr P items ys/\Kp k S S2/\S2.length=S.length
 |[],ρ,S,_,hs,_=>⟨[],S,by unfold c0;rw[cJ];rfl,.nil,.refl hs,rfl⟩
 | d::ds,ρ,S,hR,hs,hb=>by
  obtain⟨Z,b,S1,e1,Y,e2,k1,O,J⟩:=hb d (Ol ..) ρ S hR hs;cases b with
  |false=>
   obtain⟨ys,S2,W,X,k2,Q⟩:=nS (its:=its) R P ds Z S1 Y k1.st λx U=>hb x (N7 _ U);refine⟨ys,S2,?_,.skip X,k1.trans k2,Q.trans O⟩;unfold c0;rw[cJ,aq,e1,aq,aR e2,if_neg (by decide)];exact W
  |true=>
   obtain⟨y,S2,L,K,k2,Q⟩:=J rfl;obtain⟨ys,T,W,X,k3,N⟩:=nS (its:=its) R P ds Z S2 Y k2.st λx U=>hb x (N7 _ U);refine⟨y::ys,T,?_,.put K X,(k1.trans k2).trans k3,N.trans (Q.trans O)⟩;unfold c0;rw[cJ,aq,e1,aq,aR e2,if_pos rfl,aR L,aR W];rfl
theorem Ct{mi:aE->M Iter}{g:lR}{t:fe}{m:TM}(R:aE->Prop)(P:D->D->Prop)(Q:mi ρ=aC ⟨its,.none⟩)(O:its.length<=1000)(T:R (iK js ρ))(hs:fb S k)(U:∀d y,P d y->gF 0 y=b_)
  (W:∀d∈its,∀ ρ S,R ρ->fb S k->∃ ρ1 b S1,g d ρ=aC ρ1/\R ρ1/\t ρ1 S=ar (.ok b,S1)/\Kp k S S1/\S1.length=S.length/\(b=b_->∃y S2,m ρ1 S1=ar (.ok y,S2)/\P d y/\Kp k S1 S2/\S2.length=S1.length)):
  ∃ys S2,aL (a7 mi g t m js) ρ S=ar (.ok (.fz ys),S2)/\Dr P its ys/\Kp k S S2/\S2.length=S.length:=by
 obtain⟨ys,S2,e,Y,k2,Z⟩:=nS (its:=its) (g:=g) (t:=t) (m:=m) (k:=k) R P its (iK js ρ) S T hs W;have hlen:=Y.len;refine⟨ys,S2,?_,Y,k2,Z⟩;have X:a7 mi g t m js ρ S=ar (.ok (.lst S2.length),S2++[ys]):=by unfold a7;rw[Q,aq];unfold gM;rw[if_pos (show its.length<=lim by unfold lim;omega),aR e];exact iR (by unfold lim;omega)
 have:=pU (u:=.fz ys) X (rq (k2.trans (Kp.grow k2.st [ys]))) (.inl (by rw[NP,Z];exact PX _)) (by rw[NP,Z];exact P3 _) (z6 (f:=59) (by omega) d4 (Y.cl U));unfold aL;rw[this, <-Z,List.take_left]
theorem z8{f:D->D->M D}{e1 e2:TM}(Z:e1 ρ S=ar (.ok x,S1))(Y:e2 ρ S1=ar (.ok y,S2))(h:f x y=aC (.bl b)):d5 f e1 e2 ρ S=ar (.ok b,S2):=by
 have:(e1 ρ>>=λx=>e2 ρ>>=λy=>f x y) S=ar (.ok (.bl b),S2):=by rw[aR Z,aR Y,h];rfl
 exact aR this
theorem JC{ys:List D}(Z:S[p]? =ar xs)(Y:xs.length+ys.length<=1000):fK (.lst p) [.fz ys] S=ar (.ok .non,S.set p (xs++ys)):=by show(getL p>>=λxs=>nL p (xs++ys)) S=_;rw[aR (gT Z)];exact m9 (by rw[NP];unfold lim;omega) (NX.mp Z).1
theorem z9{l:List (List Int)}(h:l.Nodup):(bc l).Pairwise λa b=>HT.lexLt a b=true:=by
 have Z:=gh l;have Y:(bc l).Nodup:=(List.Perm.nodup_iff (bx _)).mpr h;generalize bc l=s at Z Y
 induction s with
 |nil=>exact .nil
 |cons x r ih=>
  obtain⟨a1,a2⟩:=Oa.mp Z;obtain⟨W,U⟩:=ON.mp Y;refine Oa.mpr ⟨λy X=>?_,ih a2 U⟩;cases q:HT.lexLt x y with
  |true=>rfl
  |false=>exact absurd (vJ q (a1 y X) ▸ X) W
theorem uR(Y:∀r∈nss,r.length=2)(X:nss.length<64):kx (nss.map tupI)=bQ ((bc nss).map tupI):=by
 cases nss with
 |nil=>rfl
 |cons r nss=>
  have Z:two (r::nss)=true:=Of.mpr λx W=>by rw[Y x W];rfl
  show(match rowsOf ((r::nss).map tupI)with|some nss=>sj nss|none=>M.fail)=_;rw[sP];exact if_pos ⟨X,Z⟩
theorem EC{c:M D}{S2:aK}(h:c S=ar (.ok (.lst S2.length),S2++[us]))(Z:Kp k S S2)(l:S2.length=S.length)(Y:df 0 us=b_):iF c S=ar (.ok (.fz us),S2):=by have:=pU (u:=.fz us) h (rq (Z.trans (Kp.grow Z.st [us]))) (.inl (by rw[NP,l];exact PX _)) (by rw[NP,l];exact P3 _) (z6 (f:=59) (by omega) d4 Y);rw[this, <-l,List.take_left]
theorem Cu{Z:List (List Int)}(hs:fb S k)(W:S[p]? =ar (Z.map tupI))(Y:∀r∈Z,r.length=2)(X:Z.length<64):iF (bG [.lst p]) S=ar (.ok (.fz ((bc Z).map tupI)),S):=by refine EC ?_ (Kp.refl hs) rfl (bt _);show(getL p>>=λxs=>kx xs) S=_;rw[aR (gT W),uR Y X];exact iR (by rw[NM,(bx Z).length_eq];unfold lim;omega)
theorem A7{zs:List Int}{a:Int}(Y:0<=a)(h:a<zs.length):b9 (tupI zs) (.int a)=aC (.int (zs.getD a.toNat 0)):=by
 show(match kJ (zs.map D.int) a with|some d=>(aC d:M D)|none=>M.fail)=_;have:kJ (zs.map D.int) a=ar (.int (zs.getD a.toNat 0)):=by
  unfold kJ yM;rw[NM];have X:¬ (a<0):=by omega
  have Z:a.toNat<zs.length:=by omega
  simp[Y,h,Z]
 rw[this]
theorem WebOk.sort{T:List (List Int)}(h:T.Nodup)(X:∀t∈T,∃a b:Int,t=[a,b]/\0<=a/\a<b/\b<m)(Y:T.length<=21):WebOk m (bc T):=
 ⟨λt Z=>X t ((bx T).mem_iff.mp Z),z9 h,by rw[(bx T).length_eq];exact Y⟩
section
variable {n:Nat}{zs:List Int}{E:List (List Int)}
theorem A8(Z:zs.Perm (eE n))(X:i<n):0<=zs.getD i 0/\zs.getD i 0<n:=by
 have W:zs.length=n:=by rw[Z.length_eq];unfold eE;simp
 have:zs.getD i 0∈eE n:=by rw[<-Z.mem_iff,NS,NR (by omega)];exact Pf _
 unfold eE at this;obtain⟨j,Y,e⟩:=NY.mp this;have:=N0.mp Y;omega
theorem GW(Z:zs.Perm (eE n)):zs.Nodup:=by rw[Z.nodup_iff];unfold eE;exact List.Pairwise.map _ (λa b h e=>h (by have e2:(0:Int)+(a:Int)=0+(b:Int):=e;omega)) (Qd (n:=n))
theorem sS(Z:zs.Perm (eE n))(X:i<n)(Y:j<n)(h:zs.getD i 0=zs.getD j 0):i=j:=by
 have W:zs.length=n:=by rw[Z.length_eq];unfold eE;simp
 rw[NS,NS,NR (by omega),NR (by omega)]at h;exact(QH (GW Z)).mp h
end
theorem JD{Z:aE->M (List D)}(h:Z ρ S=ar (.ok [d1,d2],S1)):Gr i j Z ρ S=ar (.ok (.nx ((ρ.set i (ar d1)).set j (ar d2))),S1):=by unfold Gr;rw[aR h];rfl
theorem qR{e1 e2:TM}(hs:fb S k)(Z:e1 ρ=aC (.lst k))(X:e2 ρ=aC (.int m))(Y:0<m)(W:m<1000):∃j S1,aL (ak aV (ae e1 (ae e2 aj))) ρ S=ar (.ok (.int j),S1)/\0<=j/\j<m/\Kp k S S1/\S1.length=S.length:=by obtain⟨j,S1,e,r⟩:=A6 (many:=m) hs Y (by omega);refine⟨j,S1,?_,r⟩;unfold aL;rw[call2 Z X];exact e
theorem Lo(l:List D)(m:Nat):S3.cutD l none (ar (m:Int))=l.take m:=by
 unfold S3.cutD;rw[HT.sIx_none,HT.sIx_nat,L',Nat.sub_zero];by_cases h:m<=l.length
 ·rw[Nat.min_eq_left h]
 ·rw[Nat.min_eq_right (by omega),Qy (NQ _),Qy (by omega)]
def bU(p:Int)(t:List Int):Bool:=t.any (· ==p)
theorem A9(p:Int):∀t:List Int,((t.map mj).any λy=>eo y (.int p))=bU p t
 |[]=>rfl
 |x::r=>by
  rw[On,Rm,A9 p r];unfold bU;rw[Rm];congr 1
theorem qS:inD (.int p) (tupI t)=aC (.bl (bU p t)):=bM λS=>by unfold inD;exact(oK lD (jY t) (r:=bU p t) (by show ar (id ((t.map mj).any λy=>eo y (.int p)))=_;rw[A9];rfl)).mpr ⟨rfl,rfl⟩
theorem qc{E:List (List Int)}(h:a<E.length):b9 (.tup (E.map tupI)) (.int a)=aC (tupI (E.getD a [])):=by
 show(match kJ (E.map tupI) a with|some d=>(aC d:M D)|none=>M.fail)=_;have:kJ (E.map tupI) (a:Int)=ar (tupI (E.getD a [])):=by
  unfold kJ yM;rw[NM];have Z:¬ ((a:Int)<0):=by omega
  have Y:(a:Int)<E.length:=by omega
  simp[Z,Y,h]
 rw[this]
theorem getD_in{E:List (List Int)}(h:a<E.length):E.getD a []∈E:=by rw[NS,NR h];exact Pf h
theorem nF{F:List D->M D}{e1 e2 Z:TM}(X:e1 ρ=aC x)(W:e2 ρ=aC y)(Y:Z ρ=aC z):ak F (ae e1 (ae e2 (ae Z aj))) ρ=F [x,y,z]:=by unfold ak;rw[bq X (bq W (bq Y rfl)),aq]
theorem mL:∀s t:List Int,ly (s.map mj) (t.map mj)=decide (s=t)
 |[],[]=>by simp[ly]
 |[],_::_=>by simp[ly]
 |_::_,[]=>by simp[ly]
 |x::s,y::t=>by
  rw[On,On];unfold ly;rw[mL s t,O0];simp[eo]
theorem mM{α:Type} [DecidableEq α]:∀{l m:List α},l.Nodup->(∀x∈l,x∈m)->l.length<=m.length
 |[],_,_,_=>Og _
 |x::l,m,h,hs=>by
  obtain⟨W,X⟩:=ON.mp h;have Z:=hs x (.head _);have:=mM (l:=l) (m:=m.erase x) X λy Y=>(List.mem_erase_of_ne (λ(e:y=x)=>W (by rw[<-e];exact Y))).mpr (hs y (.tail _ Y));rw[List.length_erase_of_mem Z]at this;have:=List.length_pos_of_mem Z;rw[Ou];omega
theorem rz{a m:Nat}:bR ((a:Int)+1) ((m:Int) - ((a:Int)+1)).toNat=(hO (a+1) (m - (a+1))).map λb:Nat=>.int (b:Int):=by
 have e:((m:Int) - ((a:Int)+1)).toNat=m - (a+1):=by omega
 rw[e];unfold bR;rw[Rj,Od];refine Qh λi _=>?_;show D.int ((a:Int)+1+(i:Int))= .int ((a+1+i:Nat):Int);congr 1
theorem MY{n a:Nat}{x:Option D}(Y:n<=14)(Z:a<n):aL (a7 (vN (aU cW (mV 2) (mK (.int 1))) (mV 0)) (gN 0) fM fN [none,ar 2]) [ar (.int n),x,ar (.int a)]=aC (.fz ((lF n a).map tupI)):=by
 have em:(((hO (a+1) (n - (a+1))).map λb:Nat=>D.int (b:Int)).filter λ_=>b_).map (λd=>D.tup [.int a,d])=(lF n a).map tupI:=by unfold lF;rw[bO,Od,Od];rfl
 have h:=jB (mi:=vN (aU cW (mV 2) (mK (.int 1))) (mV 0)) (g:=gN 0) (t:=fM) (m:=fN) (js:=[none,ar 2]) (ρ:=[ar (.int n),x,ar (.int a)]) (its:=(hO (a+1) (n - (a+1))).map λb:Nat=>D.int (b:Int)) (λρ=>∃y,ρ=[y,ar (.int a)]) (λ_=>b_) (λd=>D.tup [.int a,d])
  (by rw[sI (x:=.int ((a:Int)+1)) (y:=.int n) rfl rfl,En (by omega),rz]) (by rw[NM,Pz];unfold lim;omega) ⟨none,rfl⟩
  (λd hd ρ ⟨y,hρ⟩=>by subst hρ;refine⟨_,rfl,⟨_,rfl⟩,rfl,λ_=>?_⟩;show bw [.int a,d]=_;unfold bw;exact if_pos o6) (by rw[em];exact bt _)
 rw[em]at h;exact h
theorem uS{S:aK}{n:Nat}{its:List D}(Y:n<=14):∀(post:List Nat) (acc:List (List Int)) (x:Option D),(∀a∈post,a<n)->acc.length+post.length*14<=300->
  ∃Z,gz ⟨its,.none⟩ (gN 2) ib (post.map λi:Nat=>.int (0+(i:Int))) [ar (.int n),ar (.lst S.length),x] (S++[acc.map tupI])=ar (.ok (.nx [ar (.int n),ar (.lst S.length),Z]),S++[(acc++post.flatMap (lF n)).map tupI])
 |[],acc,x,_,_=>⟨x,by rw[Pl,lE,Rt,Oi];rfl⟩
 |a::post,acc,x,ha,hl=>by
  rw[Ou,PM]at hl;have U:=GQ (a:=a) Y;obtain⟨Z,W⟩:=uS (S:=S) (its:=its) Y post (acc++lF n a) (ar (.int a)) (λb X=>ha b (.tail _ X)) (by rw[NP];omega);refine⟨Z,?_⟩;rw[O4, <-OF, <-W,On,Q5];refine sL rfl (uM (x:=.non) ((ya (x:=.lst S.length) rfl rfl (Oh (MY Y (ha a (.head _))) _)).trans ((JC d4 (by rw[NM,NM];omega)).trans ?_)));rw[<-OG,P5 _ _ (NQ _),Ql];rfl
theorem ED{n:Nat}(Z:n<=14):iF (bj [.int n])=aC (.fz ((bB n).map tupI)):=by
 have T:=Ri Z;have Y:((bB n).map tupI).length<=lim:=by rw[NM];unfold lim;omega
 have:bj [.int n]=bQ ((bB n).map tupI):=by
  funext S;obtain⟨U,e⟩:=uS (S:=S) (its:=bR 0 n) Z (dq n) [] none (λa X=>N0.mp X) (by rw[Oc];simp;omega);have W:n5 (mV 0) [ar (.int n),ar (.lst S.length),none]=aC ⟨bR 0 n,.none⟩:=by have:=(vU (m:=mV 0) (ρ:=[ar (.int n),ar (.lst S.length),none]) (x:=.int n) rfl).trans (GL (by omega));rw[OS]at this;exact this
  rw[iR Y];exact fy (o:=.ret (.lst S.length)) ((aZ (cg (iR (S:=S) (us:=[]) (Og _)))).trans ((aZ (pY W e)).trans (gr rfl))) rfl
 rw[this];exact cw (bt _) Y
theorem JE{c:M D}{S S2:aK}{us:List D}{k q:Nat}(hs:fb S k)(h:c S=ar (.ok (.lst q),S2))(Z:Kp k S S2)(Y:S.length<=q)(g:S2[q]? =ar us)(X:df 0 us=b_):∃S1,iF c S=ar (.ok (.fz us),S1)/\Kp k S S1/\S1.length=S.length:=
 ⟨_,pU (u:=.fz us) h (rq Z) (.inl (PZ Y (NX.mp g).1)) Z.len (z6 (f:=59) Y g X),A5 hs Z⟩
theorem yb{S:aK}{k p q:Nat}{a1:Option D}(Q:k<S.length)(P:S.length<=p)(O:S.length<=q)(Y:p≠q):∀(f:Nat) (ls ms:List Int) (S':aK),ls.length<f->ls.length+ms.length<=14->S'[p]? =ar (ls.map D.int)->S'[q]? =ar (ms.map D.int)->Kp k S S'->
  ∃(zs:List Int) (S2:aK),lZ (d5 mW (mV 2) (aL (cX aj))) cT f [ar (.lst k),a1,ar (.lst p),ar (.lst q)] S'=ar (.ok (.nx [ar (.lst k),a1,ar (.lst p),ar (.lst q)]),S2)/\S2[q]? =ar (zs.map D.int)/\zs.Perm (ms++ls)/\Kp k S S2
 |0,ls,ms,S',h,_,_,_,_=>by omega
 | f +1,ls,ms,S',hf,hl,g1,g2,kp=>by
  have C:d5 mW (mV 2) (aL (cX aj)) [ar (.lst k),a1,ar (.lst p),ar (.lst q)] S'=ar (.ok (!ls.isEmpty),S'):=by have B:aL (cX aj) [ar (.lst k),a1,ar (.lst p),ar (.lst q)]=aC (.fz []):=cw (us:=[]) rfl (Og _);show((mV 2 _>>=λx=>aL (cX aj) _>>=λy=>mW x y)>>=n4) S'=_;rw[B];show(mW (.lst p) (.fz [])>>=n4) S'=_;rw[aR (JB g1)];rfl
  rw[lZ,aR C];cases ls with
  |nil=>exact⟨ms,S',by rfl,g2,by rw[Oi],kp⟩
  | cons l0 ls0=>
   generalize hL:l0::ls0=ls at*;have R:(!ls.isEmpty)=true:=by rw[<-hL];rfl
   have N:0<ls.length:=by rw[<-hL];exact Nat.succ_pos _
   rw[if_pos R];obtain⟨j,S1,K,J,w,X,z⟩:=A6 (S:=S') (k:=k) (many:=ls.length) kp.st (by omega) (by omega);have A:=(NX.mp g1).1;have I:=(NX.mp g2).1;have E:=(X.oth p A (by omega)).trans g1;have G:=(X.oth q I (by omega)).trans g2;have T:j.toNat<ls.length:=by omega
   have H:cT [ar (.lst k),a1,ar (.lst p),ar (.lst q)] S'=ar (.ok (.nx [ar (.lst k),a1,ar (.lst p),ar (.lst q)]),(S1.set p ((ls.eraseIdx j.toNat).map D.int)).set q ((ms++[ls[j.toNat]]).map D.int)):=by
    unfold cT;have hlen:bX dj (mV 2) [ar (.lst k),a1,ar (.lst p),ar (.lst q)] S'=ar (.ok (.int ls.length),S'):=by refine(AZ (x:=.lst p) (S1:=S') rfl).trans ?_;show(getL p>>=λxs=>aC (D.int xs.length)) S'=_;rw[aR (gT g1),NM];rfl
    have U:aL (ak aV (ae (mV 0) (ae (bX dj (mV 2)) aj))) [ar (.lst k),a1,ar (.lst p),ar (.lst q)] S'=ar (.ok (.int j),S1):=by have L:ak aV (ae (mV 0) (ae (bX dj (mV 2)) aj)) [ar (.lst k),a1,ar (.lst p),ar (.lst q)] S'=aV [.lst k,.int ls.length] S':=aR (dH (x:=.lst k) rfl (dH hlen rfl));unfold aL;rw[<-K];unfold iF;rw[L]
    have Z:=(ya (f:=pN) (e1:=mV 2) (ρ:=[ar (.lst k),a1,ar (.lst p),ar (.lst q)]) (x:=.lst p) rfl rfl U).trans (pop_at (d:=.int ls[j.toNat]) E (by rw[NM];omega) J (by rw[NM];omega) (by rw[OR,NR T];rfl));rw[uN]at Z;have W:=(ya (f:=gf) (e1:=mV 3) (ρ:=[ar (.lst k),a1,ar (.lst p),ar (.lst q)]) (x:=.lst q) rfl rfl Z).trans (EB (d:=.int ls[j.toNat]) (xs:=ms.map D.int) (by rw[OV Y];exact G) (by rw[NM];omega));refine uM (x:=.non) (W.trans ?_);rw[OG];rfl
   rw[aR H];have he:=List.length_eraseIdx_of_lt T;obtain⟨zs,S2,e2,g3,F,k2⟩:=yb (a1:=a1) Q P O Y f (ls.eraseIdx j.toNat) (ms++[ls[j.toNat]]) ((S1.set p ((ls.eraseIdx j.toNat).map D.int)).set q ((ms++[ls[j.toNat]]).map D.int)) (by omega) (by rw[NP];show _+(ms.length+1)<=14;omega)
    (by rw[OV (lx Y),OX (by omega)]) (by rw[OX (by rw[Ry];omega)]) (((kp.trans X).set P Q).set O Q)
   refine⟨zs,S2,e2,g3,F.trans ?_,k2⟩;rw[OF];exact(z7 T).append_left ms
theorem sT{S:aK}{k n:Nat}{ρ:aE}{e1 e2:TM}(hs:fb S k)(N:n<=14)(U:e1 ρ=aC (.lst k))(T:e2 ρ=aC (.int n)):∃(zs:List Int) (S1:aK),aL (ak bb (ae e1 (ae (aL (bX cD e2)) aj))) ρ S=ar (.ok (.fz (zs.map D.int)),S1)/\zs.Perm (eE n)/\Kp k S S1/\S1.length=S.length:=by
 have Q:bR 0 n=(eE n).map D.int:=by unfold bR eE;rw[Od];rfl
 have hlen:(eE n).length=n:=by unfold eE;simp
 have Z:((eE n).map D.int).length<=lim:=by rw[NM,hlen];unfold lim;omega
 have R:aL (bX cD e2) ρ=aC (.fz ((eE n).map D.int)):=by unfold aL;rw[cU T,MX (j:=n) ⟨by omega,by unfold lim;omega⟩,OS,Q];exact cw (gU _) Z
 obtain⟨zs,S2,e,g3,W,k2⟩:=yb (S:=S) (k:=k) (p:=S.length) (q:=S.length+1) (a1:=ar (.fz ((eE n).map D.int))) hs.lt (NQ _) (P3 _) (by omega) 64 (eE n) [] (S++[(eE n).map D.int,[]]) (by omega) (by simp;omega) (Ln 0) (Ln 1) (Kp.grow hs _);have P:cb 3 (cX aj) [ar (.lst k),ar (.fz ((eE n).map D.int)),ar (.lst S.length),none] (S++[(eE n).map D.int])=ar (.ok (.nx [ar (.lst k),ar (.fz ((eE n).map D.int)),ar (.lst S.length),ar (.lst (S.length+1))]),S++[(eE n).map D.int,[]]):=by refine(cg (iR (S:=S++[(eE n).map D.int]) (us:=[]) (Og _))).trans ?_;rw[OF,NP];rfl
 have O:bX uB (mV 1) [ar (.lst k),ar (.fz ((eE n).map D.int)),none,none] S=ar (.ok (.lst S.length),S++[(eE n).map D.int]):=(AZ (F:=uB) (x:=.fz ((eE n).map D.int)) (S1:=S) rfl).trans (iR Z);have Y:fi [ar (.lst k),ar (.fz ((eE n).map D.int)),none,none] S=ar (.ok (.ret (.lst (S.length+1))),S2):=by unfold fi;exact(aZ (cg O)).trans ((aZ P).trans ((aZ e).trans (gr rfl)))
 have hm:bb [.lst k,.fz ((eE n).map D.int)] S=ar (.ok (.lst (S.length+1)),S2):=fy Y rfl;obtain⟨S1,X,k1⟩:=JE hs hm k2 (P3 _) g3 (gU _);refine⟨zs,S1,?_,by rw[List.nil_append]at W;exact W,k1⟩;unfold aL;rw[call2 U R];exact X
theorem Dr.sub:∀{L:List (List Int)} {ys:List D},Dr (λd y=>y=d) (L.map tupI) ys->∃rs:List (List Int),ys=rs.map tupI/\rs.Sublist L
 |[],_,.nil=>⟨[],rfl,.slnil⟩
 |t::L,_,.skip h=>by
  obtain⟨rs,e,Z⟩:=Dr.sub h;exact⟨rs,e,Z.cons _⟩
 |t::L,_,.put p h=>by
  obtain⟨rs,e,Z⟩:=Dr.sub h;subst p e;exact⟨t::rs,rfl,Z.cons₂ _⟩
theorem qd{mi:aE->M Iter}{t:fe}{m:TM}{js:List (Option Nat)}{ρ:aE}{L:List (List Int)}{S:aK}{k:Nat}(r:List (Option D))(R:mi ρ=aC ⟨L.map tupI,.none⟩)(N:L.length<=1000)(T:iK js ρ=none::r)(hs:fb S k)(O:∀d,m (ar d::r)=aC d)
  (P:∀(u:List Int) Z,Kp k S Z->Z.length=S.length->∃b S1,t (ar (tupI u)::r) Z=ar (.ok b,S1)/\Kp k Z S1/\S1.length=Z.length):
  ∃(rs:List (List Int)) (S2:aK),a7 mi (gN 0) t m js ρ S=ar (.ok (.lst S2.length),S2++[rs.map tupI])/\rs.Sublist L/\Kp k S S2/\S2.length=S.length:=by
 have key:∀(items:List D) (o:Option D) (Z:aK),(∀d∈items,∃u,d=tupI u)->Kp k S Z->Z.length=S.length->∃ys S2,c0 ⟨L.map tupI,.none⟩ (gN 0) t m items (o::r) Z=ar (.ok ys,S2)/\Dr (λd y=>y=d) items ys/\Kp k S S2/\S2.length=S.length:=λitems=>by
  induction items with
  |nil=>exact λo Z _ Y l=>⟨[],Z,by unfold c0;rw[cJ];rfl,.nil,Y,l⟩
  | cons d ds ih=>
   intro o Z hd Y l;obtain⟨u,rfl⟩:=hd d (.head _);obtain⟨b,S1,e1,k1,Q⟩:=P u Z Y l;obtain⟨ys,S2,e2,W,k2,X⟩:=ih (ar (tupI u)) S1 (λd h=>hd d (.tail _ h)) (Y.trans k1) (Q.trans l);cases b with
   |false=>
    refine⟨ys,S2,?_,.skip W,k2,X⟩;unfold c0;rw[cJ,aq,show gN 0 (tupI u) (o::r)=aC (ar (tupI u)::r)from rfl,aq,aR e1,if_neg (by decide)];exact e2
   |true=>
    refine⟨tupI u::ys,S2,?_,.put rfl W,k2,X⟩;unfold c0;rw[cJ,aq,show gN 0 (tupI u) (o::r)=aC (ar (tupI u)::r)from rfl,aq,aR e1,if_pos rfl,O,aq,aR e2];rfl
 obtain⟨ys,S2,e,W,k2,X⟩:=key (L.map tupI) none S (λd hd=>by obtain⟨u,_,rfl⟩:=NY.mp hd;exact⟨u,rfl⟩) (.refl hs) rfl;obtain⟨rs,rfl,U⟩:=W.sub;refine⟨rs,S2,?_,U,k2,X⟩;have:=U.length_le;unfold a7;rw[R,aq];unfold gM;rw[if_pos (show(L.map tupI).length<=lim by rw[NM];unfold lim;omega),T,aR e];exact iR (by rw[NM];unfold lim;omega)
theorem EE{ds:List D}{i:Int}(Z:0<=i)(Y:i<ds.length):∃d∈ds,b9 (.fz ds) (.int i)=aC d:=by obtain⟨d,e,hd⟩:=Lk Z Y;refine⟨d,hd,?_⟩;show(match kJ ds i with|some d=>(aC d:M D)|none=>M.fail)=_;rw[e]
theorem qe{zs:List Int}{a:Int}(Z:0<=a)(h:a<zs.length):b9 (.fz (zs.map D.int)) (.int a)=aC (.int (zs.getD a.toNat 0)):=A7 Z h
theorem EF{e1 e2:TM}{ρ:aE}{x y:Int}(Y:e1 ρ=aC (.int x))(X:e2 ρ=aC (.int y)):bX bY (aL (bX bG (aL (cX (ae e1 (ae e2 aj)))))) ρ=aC (tupI (sortI [x,y])):=by
 have W:(sortI [x,y]).length=2:=(sortI_perm [x,y]).length_eq;have Z:((sortI [x,y]).map D.int).length<=lim:=by rw[NM,W];exact o6
 have a1:aL (cX (ae e1 (ae e2 aj))) ρ=aC (.fz [.int x,.int y]):=by show iF (ae _ _ _>>=bQ)=_;rw[bq Y (bq X (es:=aj) rfl),aq];exact cw (us:=[.int x,.int y]) rfl o6
 refine(cU (x:=.fz ((sortI [x,y]).map D.int)) ?_).trans (jC Z);show iF (bX bG _ _)=_;rw[cU a1];exact cw (gU _) Z
theorem JF{s:List Int}{rs:List (List Int)}:∃b,inD (tupI s) (.fz (rs.map tupI))=aC (.bl b):=by
 refine⟨(rs.map iE).any λy=>eo y (iE s),bM λS=>?_⟩;unfold inD;have Z:gO S 60 (.fz (rs.map tupI))=ar (.list (rs.map iE)):=by show(mapP (gO S 59) (rs.map tupI)).map pd=_;rw[iY];rfl
 exact(oK (jY s) Z (r:=(rs.map iE).any λy=>eo y (iE s)) rfl).mpr ⟨rfl,rfl⟩
theorem nh{ρ:aE}{e:TM}{n:Nat}(Z:n<=14)(h:e ρ=aC (.int n)):bP (aL (ak bj (ae e aj))) ρ=aC ⟨(bB n).map tupI,.none⟩:=by
 have:aL (ak bj (ae e aj)) ρ=aC (.fz ((bB n).map tupI)):=by unfold aL;rw[cz h];exact ED Z
 unfold bP;rw[this];rfl
section
variable {S:aK}{k n g:Nat}{j:Int}{zs:List Int}{its:List D}
abbrev m8:TM:=aL (cX (bg (mK (.int 0)) (bg (mK (.int 0)) (bg (mK (.int 1)) (bg (mK (.int 0)) (bg (mK (.int 2)) (bg (mK (.int 1)) (bg (mK (.int 3)) (bg (mV 1) aj)))))))))
theorem JG{r:List (Option D)}(hs:fb S k):∃(n:Nat) (S1:aK),ak maxD (ae (mK (.int 0)) (ae (aU i9 (mV 1) (aU b9 m8 (aL (ak aV (ae (mV 0) (ae (mK (.int 8)) aj)))))) aj)) (ar (.lst k)::ar (.int g)::r) S=ar (.ok (.int n),S1)/\n<=g/\Kp k S S1/\S1.length=S.length:=by
 obtain⟨i,S1,W,Z,X,k1,Y⟩:=qR (e1:=mV 0) (e2:=mK (.int 8)) (ρ:=ar (.lst k)::ar (.int g)::r) (m:=8) hs rfl rfl (by decide) (by decide);have Q:m8 (ar (.lst k)::ar (.int g)::r)=aC (.fz [.int 0,.int 0,.int 1,.int 0,.int 2,.int 1,.int 3,.int g]):=cw (us:=[.int 0,.int 0,.int 1,.int 0,.int 2,.int 1,.int 3,.int g]) rfl (by show 8<=lim;unfold lim;omega);obtain⟨d,hd,R⟩:=EE (ds:=[.int 0,.int 0,.int 1,.int 0,.int 2,.int 1,.int 3,.int g]) Z X;have U:∃u:Int,d= .int u/\0<=u:=by simp only[eu,ee,or_false]at hd;rcases hd with rfl|rfl|rfl|rfl|rfl|rfl|rfl|rfl<;>exact⟨_,rfl,by omega⟩
 obtain⟨u,rfl,P⟩:=U;have T:aU i9 (mV 1) (aU b9 m8 (aL (ak aV (ae (mV 0) (ae (mK (.int 8)) aj))))) (ar (.lst k)::ar (.int g)::r) S=ar (.ok (.int ((g:Int) - u)),S1):=
  (o7 (f:=i9) (x:=.int g) (S1:=S) rfl ((o7 (Oh Q S) W).trans (Oh R S1))).trans rfl
 refine⟨((g:Int) - u).toNat,S1,?_,by omega,k1,Y⟩;refine(aR (dH (x:=.int 0) (S1:=S) rfl (dH T rfl))).trans ?_;show ar (Res.ok (D.int (if (g:Int) - u>0 then (g:Int) - u else 0)),S1)=_;have:(if (g:Int) - u>0 then (g:Int) - u else 0)=(((g:Int) - u).toNat:Int):=by split<;>omega
 rw[this]
abbrev eW(k g n:Nat)(j:Int)(r:List (Option D)):aE:=ar (.lst k)::ar (.int g)::ar (.int n)::ar (.int j)::r
theorem GX{r:List (Option D)}(hs:fb S k)(P:n<=7)(Q:0<=j):∃(rs:List (List Int)) (S2:aK),a7 (bP (aL (ak bj (ae (mV 2) aj)))) (gN 0) kb kc [none,ar 0,ar 3] (eW k g n j r) S=ar (.ok (.lst S2.length),S2++[rs.map tupI])/\rs.Sublist (bB n)/\Kp k S S2/\S2.length=S.length:=
 qd [ar (.lst k),ar (.int j)] (nh (by omega) rfl) (by have:=Ri (n:=n) (by omega);omega) rfl hs (λd=>rfl) λu R Z l=>by
  obtain⟨i,S1,X,O,N,k1,Y⟩:=qR (e1:=mV 1) (e2:=mK (.int 8)) (ρ:=[ar (tupI u),ar (.lst k),ar (.int j)]) (m:=8) Z.st rfl rfl (by decide) (by decide);have T:aL (cX (ae (mK (.int 2)) (ae (mK (.int 4)) (ae (mK (.int 6)) aj)))) [ar (tupI u),ar (.lst k),ar (.int j)]=aC (.fz [.int 2,.int 4,.int 6]):=cw (us:=[.int 2,.int 4,.int 6]) rfl (by show 3<=lim;unfold lim;omega);have hm:aU ny (mV 2) (mK (.int 3)) [ar (tupI u),ar (.lst k),ar (.int j)]=aC (.int (j % 3)):=(bo (x:=.int j) (y:=.int 3) rfl rfl).trans (show ny (.int j) (.int 3)=_ from if_pos (e:=M.fail) (show(0:Int)<3 by decide));obtain⟨d,hd,U⟩:=EE (ds:=[.int 2,.int 4,.int 6]) (i:=j % 3) (by omega) (by show j % 3<3;omega);have W:∃v:Int,d= .int v:=by simp only[eu,ee,or_false]at hd;rcases hd with rfl|rfl|rfl<;>exact⟨_,rfl⟩
  obtain⟨v,rfl⟩:=W;exact⟨decide (i<v),S1,z8 (y:=.int v) X (Oh ((bo T hm).trans U) S1) rfl,k1,Y⟩
theorem JH{a:Nat}{q:Nat}{x7:Option D}(R:2<j)(Q:j<7)(T:1<=a)(Z:a<n)(P:zs.length=n):∃r:List Int,bX bY (aL (bX bG (aL (cX (ae (aU b9 (mV 5) (mV 6)) (ae (aU b9 (mV 5) (aU b9 (aL (cX (bg (aU i9 (mV 6) (mK (.int 1))) (bg (aU i9 (mV 6) (mK (.int 1))) (bg (mK (.int 0)) (bg (aU oC (mV 6) (mK (.int 2))) aj)))))) (aU i9 (mV 3) (mK (.int 3))))) aj)))))) (eW k g n j [ar (.lst q),ar (.fz (zs.map D.int)),ar (.int a),x7])=aC (tupI r):=by
 have U:aL (cX (bg (aU i9 (mV 6) (mK (.int 1))) (bg (aU i9 (mV 6) (mK (.int 1))) (bg (mK (.int 0)) (bg (aU oC (mV 6) (mK (.int 2))) aj))))) (eW k g n j [ar (.lst q),ar (.fz (zs.map D.int)),ar (.int a),x7])=aC (.fz [.int ((a:Int) - 1),.int ((a:Int) - 1),.int 0,.int ((a:Int) / 2)]):=by
  have Y:bg (aU i9 (mV 6) (mK (.int 1))) (bg (aU i9 (mV 6) (mK (.int 1))) (bg (mK (.int 0)) (bg (aU oC (mV 6) (mK (.int 2))) aj))) (eW k g n j [ar (.lst q),ar (.fz (zs.map D.int)),ar (.int a),x7])=aC [.int ((a:Int) - 1),.int ((a:Int) - 1),.int 0,.int ((a:Int) / 2)]:=
   bq (x:=.int ((a:Int) - 1)) rfl (bq (x:=.int ((a:Int) - 1)) rfl (bq (x:=.int 0) rfl (bq (x:=.int ((a:Int) / 2)) ((bo (x:=.int a) (y:=.int 2) rfl rfl).trans (show oC (.int a) (.int 2)=_ from if_pos (e:=M.fail) (show BJ a 2 from⟨by decide,by decide⟩))) (es:=aj) rfl)))
  show iF (bg _ _ _>>=bQ)=_;rw[Y,aq];exact cw (us:=[.int ((a:Int) - 1),.int ((a:Int) - 1),.int 0,.int ((a:Int) / 2)]) rfl (by show 4<=lim;unfold lim;omega)
 obtain⟨d,hd,W⟩:=EE (ds:=[.int ((a:Int) - 1),.int ((a:Int) - 1),.int 0,.int ((a:Int) / 2)]) (i:=j - 3) (by omega) (by show j - 3<4;omega);have X:∃v:Int,d= .int v/\0<=v/\v<n:=by simp only[eu,ee,or_false]at hd;rcases hd with rfl|rfl|rfl|rfl<;>exact⟨_,rfl,by omega,by omega⟩
 obtain⟨v,rfl,v0,v1⟩:=X;exact⟨_,EF ((bo (x:=.fz (zs.map D.int)) (y:=.int a) rfl rfl).trans (qe (by omega) (by omega))) ((bo (x:=.fz (zs.map D.int)) rfl ((bo (y:=.int (j - 3)) U rfl).trans W)).trans (qe v0 (by omega)))⟩
theorem Ba{q:Nat}{ρ:aE}{e:TM}{r:List Int}{acc:List (List Int)}(Z:mV 4 ρ=aC (.lst S.length))(Y:e ρ=aC (tupI r))(X:acc.length<=500):nO (zI gf (mV 4) e) ρ (S++[acc.map tupI])=ar (.ok (.nx ρ),S++[(acc++[r]).map tupI]):=by refine uM (x:=.non) ((ya Z rfl (Oh Y _)).trans ((EB d4 (by rw[NM];omega)).trans ?_));rw[OG,P5 _ _ (NQ _),Ql];rfl
theorem HJ(X:2<j)(W:j<7)(U:zs.length=n):∀(post:List Nat) (acc:List (List Int)) (x6 x7:Option D),(∀a∈post,1<=a/\a<n)->acc.length+post.length<=100->
  ∃(Y:Option D) (Z:List (List Int)),gz ⟨its,.none⟩ (gN 6) gP (post.map λb:Nat=>.int (b:Int)) (eW k g n j [ar (.lst S.length),ar (.fz (zs.map D.int)),x6,x7]) (S++[acc.map tupI])=ar (.ok (.nx (eW k g n j [ar (.lst S.length),ar (.fz (zs.map D.int)),Y,x7])),S++[Z.map tupI])/\Z.length<=acc.length+post.length
 |[],acc,x6,x7,_,_=>⟨x6,acc,by rw[Pl,lE];rfl,NQ _⟩
 |a::post,acc,x6,x7,ha,hl=>by
  rw[Ou]at hl⊢;obtain⟨Q,N⟩:=ha a (.head _);obtain⟨r,T⟩:=JH (k:=k) (g:=g) (q:=S.length) (x7:=x7) X W Q N U;obtain⟨Y,Z,O,P⟩:=HJ X W U post (acc++[r]) (ar (.int a)) x7 (λb R=>ha b (.tail _ R)) (by rw[NP];show acc.length+1+_<=100;omega);refine⟨Y,Z,?_,by rw[NP]at P;have:[r].length=1:=rfl;omega⟩;rw[<-O,On];exact sL rfl (Ba (q:=0) rfl T (by omega))
theorem Lp{r:List (Option D)}(hs:fb S k)(T:n<=7):∃(rs:List (List Int)) (S2:aK),aL (a7 (bP (aL (ak bj (ae (mV 2) aj)))) (gN 0) fC fD [none,ar 0]) (eW k g n j r) S=ar (.ok (.fz (rs.map tupI)),S2)/\Kp k S S2/\S2.length=S.length:=by
 obtain⟨rs,S2,e,_,k2,Z⟩:=qd (t:=fC) (m:=fD) (js:=[none,ar 0]) (ρ:=eW k g n j r) [ar (.lst k)] (nh (e:=mV 2) (by omega) rfl) (by have:=Ri (n:=n) (by omega);omega) rfl hs (λd=>rfl) λu U Y l=>by obtain⟨i,S1,W,R,Q,k1,X⟩:=qR (e1:=mV 1) (e2:=mK (.int 12)) (ρ:=[ar (tupI u),ar (.lst k)]) (m:=12) Y.st rfl rfl (by decide) (by decide);exact⟨_,S1,z8 (y:=.int 0) W rfl CQ,k1,X⟩
 exact⟨rs,S2,EC e k2 Z (bt _),k2,Z⟩
theorem GY{q:Nat}{os acc:List (List Int)}{x5 x6:Option D}(hs:fb S k)(L:n<=7)(U:S[q]? =ar (acc.map tupI))(X:q≠k):∃(rs:List (List Int)) (S2:aK),a7 (bP (aL (ak bj (ae (mV 2) aj)))) (gN 0) gQ gR [none,ar 4,ar 7] (eW k g n j [ar (.lst q),x5,x6,ar (.fz (os.map tupI))]) S=ar (.ok (.lst S2.length),S2++[rs.map tupI])/\rs.Sublist (bB n)/\Kp k S S2/\S2.length=S.length:=
 qd [ar (.lst q),ar (.fz (os.map tupI))] (nh (by omega) rfl) (by have:=Ri (n:=n) (by omega);omega) rfl hs (λd=>rfl) λu Z W l=>by have Y:=(W.oth q (NX.mp U).1 X).trans U;obtain⟨_,_,e1,b,rfl,rfl⟩:=GT (r:=u) (Q:=λd T=>∃b,d= .bl b/\Z=T) Y λb=>⟨b,rfl,rfl⟩;obtain⟨c,e2⟩:=JF (s:=u) (rs:=os);obtain⟨_,_,P,N,rfl,rfl⟩:=Lj (S:=Z) (a:=b) (b:=c) (Q:=λd T=>∃b,d= .bl b/\Z=T) λb=>⟨b,rfl,rfl⟩;refine⟨N,Z,?_,.refl W.st,rfl⟩;have R:aU inD (mV 0) (mV 1) [ar (tupI u),ar (.lst q),ar (.fz (os.map tupI))] Z=ar (.ok (.bl b),Z):=(Oh (bo (x:=tupI u) (y:=.lst q) rfl rfl) Z).trans e1;have O:aU inD (mV 0) (mV 2) [ar (tupI u),ar (.lst q),ar (.fz (os.map tupI))] Z=ar (.ok (.bl c),Z):=Oh ((bo (x:=tupI u) (y:=.fz (os.map tupI)) rfl rfl).trans e2) Z;exact aR ((o7 R O).trans P)
theorem Lq{m:TM}{ρ:aE}(Z:n<=100)(h:m ρ=aC (.int n)):vN (mK (.int 1)) m ρ=aC ⟨(hO 1 (n - 1)).map λb:Nat=>.int (b:Int),.none⟩:=by have:=rz (a:=0) (m:=n);rw[sI (x:=.int 1) rfl h,En (by omega)];rw[show((0:Nat):Int)+1=1 from rfl]at this;rw[this]
theorem Lr{ρ:aE}{q:Nat}{rs:List (List Int)}(hs:fb S k)(T:n<=7)(U:mV 2 ρ=aC (.int n))(W:mV 4 ρ=aC (.lst q))(g:S[q]? =ar (rs.map tupI))(Y:rs.Sublist (bB n)):
  bE (dz (ae (mV 2) (ae (bX bY (aL (bX bG (mV 4)))) aj))) ρ S=ar (.ok (.ret (aw n rs)),S):=by
 have w:WebOk n rs:=WebOk.of_sub T Y;have hf:=w.few;have X:aL (bX bG (mV 4)) ρ S=ar (.ok (.fz (rs.map tupI)),S):=by unfold aL;rw[cU W];have:=Cu hs g (λr Z=>by obtain⟨a,b,e,_⟩:=w.el r Z;rw[e];rfl) (by omega);rw[uP w.ris]at this;exact this
 refine gr (Ep (Oh U S) ((AZ X).trans ?_));rw[jC (by rw[NM];unfold lim;omega)];rfl
theorem JI{q:Nat}{acc:List (List Int)}{x6 x7:Option D}(T:n<=7)(R:zs.length=n)(U:acc.length<=100):∃acc2:List (List Int),jb (xB (d5 kH (mV 3) (mK (.int 4))) (d5 xp (mV 2) (mK (.int 2)))) (nO (zI gf (mV 4) (bX bY (aL (bX bG (aL (cX (ae (aU b9 (mV 5) (mK (.int 0))) (ae (aU b9 (mV 5) (aU i9 (mV 2) (mK (.int 1)))) aj))))))))) dG (eW k g n j [ar (.lst S.length),ar (.fz (zs.map D.int)),x6,x7]) (S++[acc.map tupI])=ar (.ok (.nx (eW k g n j [ar (.lst S.length),ar (.fz (zs.map D.int)),x6,x7])),S++[acc2.map tupI]):=by
 have Y:d5 kH (mV 3) (mK (.int 4)) (eW k g n j [ar (.lst S.length),ar (.fz (zs.map D.int)),x6,x7])=aC (decide (j=4)):=bA (x:=.int j) (y:=.int 4) rfl rfl CQ;have W:d5 xp (mV 2) (mK (.int 2)) (eW k g n j [ar (.lst S.length),ar (.fz (zs.map D.int)),x6,x7])=aC (decide (2<(n:Int))):=bA (x:=.int n) (y:=.int 2) rfl rfl rfl;have Z:xB (d5 kH (mV 3) (mK (.int 4))) (d5 xp (mV 2) (mK (.int 2))) (eW k g n j [ar (.lst S.length),ar (.fz (zs.map D.int)),x6,x7])=aC (decide (j=4) && decide (2<(n:Int))):=by
  show(d5 kH _ _ _>>=_)=_;rw[Y,aq];cases decide (j=4)with
  |false=>rfl
  |true=>exact W
 by_cases h:(decide (j=4) && decide (2<(n:Int)))=b_
 ·have X:2<n:=by
   have:=OE ((OA _ _).mp h).2;omega
  refine⟨_,(Oh ((b7 Z).trans (if_pos h)) _).trans (Ba (q:=0) rfl (EF (x:=zs.getD 0 0) (y:=zs.getD (n - 1) 0) ?_ ?_) (by omega))⟩
  ·exact(bo (x:=.fz (zs.map D.int)) (y:=.int 0) rfl rfl).trans (qe (by decide) (by omega))
  ·refine(bo (x:=.fz (zs.map D.int)) (y:=.int ((n:Int) - 1)) rfl rfl).trans ((qe (by omega) (by omega)).trans ?_);rw[show((n:Int) - 1).toNat=n - 1 by omega]
 ·exact⟨acc,(Oh ((b7 Z).trans (if_neg h)) _).trans rfl⟩
theorem EG(hg:g<=7)(hs:fb S k):∃(n:Nat) (E:List (List Int)) (S1:aK),iF (gG [.lst k,.int g]) S=ar (.ok (aw n E),S1)/\n<=g/\WebOk n E/\Kp k S S1/\S1.length=S.length:=by
 obtain⟨n,T1,e1,u,k1,l1⟩:=JG (g:=g) (r:=[none,none,none,none,none,none]) hs;have Y:n<=7:=by omega
 obtain⟨j,T2,e2,v,z,k2,l2⟩:=qR (e1:=mV 0) (e2:=mK (.int 7)) (ρ:=[ar (.lst k),ar (.int g),ar (.int n),none,none,none,none,none]) (m:=7) k1.st rfl rfl (by decide) (by decide);obtain⟨rs,R,e,t,k3,l3⟩:=GX (g:=g) (n:=n) (j:=j) (r:=[none,none,none,none]) k2.st Y v;have H:=Kp.grow k3.st [rs.map tupI];obtain⟨zs,X,A,l,k5,l5⟩:=sT (n:=n) (ρ:=eW k g n j [ar (.lst R.length),none,none,none]) (e1:=mV 0) (e2:=mV 2) H.st (by omega) rfl rfl;have B:zs.length=n:=by rw[l.length_eq];unfold eE;simp
 have s:k<R.length:=by have:=hs.lt;omega
 have g4:X[R.length]? =ar (rs.map tupI):=(k5.oth R.length (by simp) (by omega)).trans d4;have F:=((k1.trans k2).trans k3).trans (H.trans k5);have key:∃(x4:Nat) (Z:List (List Int)) (ρ:aE) (T:aK),jb (d5 xp (mV 3) (mK (.int 2))) (aF (cb 4 (cX aj)) (aF (nz (vN (mK (.int 1)) (mV 2)) (gN 6) gP) (aF (jb (xB (d5 kH (mV 3) (mK (.int 4))) (d5 xp (mV 2) (mK (.int 2)))) (nO (zI gf (mV 4) (bX bY (aL (bX bG (aL (cX (ae (aU b9 (mV 5) (mK (.int 0))) (ae (aU b9 (mV 5) (aU i9 (mV 2) (mK (.int 1)))) aj))))))))) dG) (aF (cb 7 (aL (a7 (bP (aL (ak bj (ae (mV 2) aj)))) (gN 0) fC fD [none,ar 0]))) (cb 4 (a7 (bP (aL (ak bj (ae (mV 2) aj)))) (gN 0) gQ gR [none,ar 4,ar 7])))))) dG (eW k g n j [ar (.lst R.length),ar (.fz (zs.map D.int)),none,none]) X=ar (.ok (.nx ρ),T)/\mV 2 ρ=aC (.int n)/\mV 4 ρ=aC (.lst x4)/\T[x4]? =ar (Z.map tupI)/\Z.Sublist (bB n)/\Kp k S T:=by
  have J:d5 xp (mV 3) (mK (.int 2)) (eW k g n j [ar (.lst R.length),ar (.fz (zs.map D.int)),none,none])=aC (decide (2<j)):=bA (x:=.int j) (y:=.int 2) rfl rfl rfl;by_cases hj:2<j
  ·have p:=Lq (n:=n) (m:=mV 2) (ρ:=eW k g n j [ar (.lst X.length),ar (.fz (zs.map D.int)),none,none]) (by omega) rfl;obtain⟨P,acc,K,G⟩:=HJ (S:=X) (k:=k) (g:=g) (its:=(hO 1 (n - 1)).map λb:Nat=>.int (b:Int)) hj z B (hO 1 (n - 1)) [] none none (λa h=>by have:=O2.mp h;omega) (by rw[Pz];simp;omega);rw[Pz]at G;obtain⟨U,L⟩:=JI (S:=X) (k:=k) (g:=g) (j:=j) (zs:=zs) (q:=0) (x6:=P) (x7:=none) Y B (acc:=acc) (by simp at G;omega);have Q:=Kp.grow k5.st [U.map tupI];obtain⟨os,f,w,O,l7⟩:=Lp (g:=g) (n:=n) (j:=j) (r:=[ar (.lst X.length),ar (.fz (zs.map D.int)),P,none]) Q.st Y;have i:k<X.length:=by have:=k5.len;simp at this;omega
   have N:f[X.length]? =ar (U.map tupI):=(O.oth X.length (by simp) (by omega)).trans d4;obtain⟨Z,T6,e8,W,I,l8⟩:=GY (g:=g) (n:=n) (j:=j) (os:=os) (x5:=ar (.fz (zs.map D.int))) (x6:=P) O.st Y N (by omega);refine⟨T6.length,Z,_,_,(Oh ((b7 J).trans (if_pos (N1 hj))) X).trans ((aZ (cg (iR (S:=X) (us:=[]) (Og _)))).trans ((aZ (pY p K)).trans ((aZ L).trans ((aZ (cg w)).trans (cg e8))))),rfl,rfl,d4,W,F.trans ((Q.trans O).trans (I.trans (Kp.grow I.st _)))⟩
  ·exact⟨R.length,rs,_,_,(Oh ((b7 J).trans (if_neg (by rw[N8];exact hj))) X).trans rfl,rfl,rfl,g4,t,F⟩
 obtain⟨x4,Z,ρ,T,K,h2,h4,N,W,C⟩:=key;have hm:lj [ar (.lst k),ar (.int g),none,none,none,none,none,none] S=ar (.ok (.ret (aw n Z)),T):=by unfold lj;exact(aZ (cg e1)).trans ((aZ (cg e2)).trans ((aZ (cg e)).trans ((aZ (cg A)).trans ((aZ K).trans (Lr C.st Y h2 h4 N W)))))
 obtain⟨S1,L,Q⟩:=uQ (c:=gG [.lst k,.int g]) (d:=aw n Z) hs (fy (o:=.ret (aw n Z)) hm rfl) C sR;exact⟨n,Z,S1,L,u,WebOk.of_sub Y W,Q⟩
def qT(zs:List Int)(t:List Int):List Int:=sortI [zs.getD (t.getD 0 0).toNat 0,zs.getD (t.getD 1 0).toNat 0]
def Nn(zs:List Int):D->D
 | .tup [.int a,.int b]=>tupI (qT zs [a,b])
 |d=>d
theorem JJ{x y:Int}(h:x≠y):∃a b,sortI [x,y]=[a,b]/\a<b/\(a=x/\b=y\/a=y/\b=x):=by
 by_cases c:x<=y
 ·refine⟨x,y,?_,by omega,.inl ⟨rfl,rfl⟩⟩;show insI x [y]=_;unfold insI;exact if_pos c
 ·refine⟨y,x,?_,by omega,.inr ⟨rfl,rfl⟩⟩;show insI x [y]=_;unfold insI;exact if_neg c
structure TiesOk(n:Nat)(E:List (List Int)):Prop where
 el:∀t∈E,∃a b:Int,t=[a,b]/\0<=a/\a<b/\b<n
 nd:E.Nodup
 few:E.length<=21
theorem sU{E:List (List Int)}(T:zs.Perm (eE n))(w:TiesOk n E):WebOk n (bc (E.map (qT zs))):=by
 have Q:∀t∈E,∃x y a b:Int,qT zs t=[a,b]/\a<b/\t=[x,y]/\0<=x/\x<y/\y<n/\(a=zs.getD x.toNat 0/\b=zs.getD y.toNat 0\/a=zs.getD y.toNat 0/\b=zs.getD x.toNat 0):=λt Z=>by
  obtain⟨x,y,rfl,x0,P,W⟩:=w.el t Z;obtain⟨a,b,e,H,G⟩:=JJ (x:=zs.getD x.toNat 0) (y:=zs.getD y.toNat 0) λz=>by have:=sS T (i:=x.toNat) (j:=y.toNat) (by omega) (by omega) z;omega
  exact⟨x,y,a,b,e,H,rfl,x0,P,W,G⟩
 have C:=w.nd;refine WebOk.sort (Oz.mpr (Ox (λ{s t} hs Z hne e=>hne ?_) C)) (λt Z=>?_) (by rw[NM];exact w.few)
 ·obtain⟨s,hs,rfl⟩:=NY.mp Z;obtain⟨x,y,a,b,e1,R,rfl,x0,P,W,c1⟩:=Q s hs;have r:=A8 T (i:=x.toNat) (by omega);have o:=A8 T (i:=y.toNat) (by omega);exact⟨a,b,e1,by omega,R,by omega⟩
 ·obtain⟨x,y,a,b,e1,_,rfl,x0,P,W,c1⟩:=Q s hs;obtain⟨u,v,c,d,e2,_,rfl,L,B,O,F⟩:=Q t Z;rw[e1,e2]at e;have A:=(OJ e).1;have m:=(OJ (OJ e).2).1;have inj:=λ(p q:Int) (p0:0<=p) (pn:p<n) (q0:0<=q) (qn:q<n) z=>sS T (i:=p.toNat) (j:=q.toNat) (by omega) (by omega) z;have I:=inj x u x0 (by omega) L (by omega);have K:=inj y v (by omega) W (by omega) O;have N:=inj x v x0 (by omega) (by omega) O;have J:=inj y u (by omega) W L (by omega);generalize zs.getD x.toNat 0=X at*;generalize zs.getD y.toNat 0=Y at*;generalize zs.getD u.toNat 0=U at*;generalize zs.getD v.toNat 0=V at*;have:x=u/\y=v:=by
   rcases c1 with⟨c11,c12⟩|⟨c11,c12⟩<;>rcases F with⟨c21,c22⟩|⟨c21,c22⟩
   ·have:=I (by omega);have:=K (by omega);omega
   ·have:=N (by omega);have:=J (by omega);omega
   ·have:=N (by omega);have:=J (by omega);omega
   ·have:=I (by omega);have:=K (by omega);omega
  rw[this.1,this.2]
theorem Bb{E:List (List Int)}(W:zs.Perm (eE n))(w:TiesOk n E):cI [aw n E,.fz (zs.map D.int)]=aC (aw n (bc (E.map (qT zs)))):=by
 have R:zs.length=n:=by rw[W.length_eq];unfold eE;simp
 have wS:=sU W w;have hf:=w.few;have em:((E.map tupI).filter λ_=>b_).map (Nn zs)=(E.map (qT zs)).map tupI:=by rw[bO,Od,Od];refine Qh λt Z=>?_;obtain⟨x,y,rfl,_⟩:=w.el t Z;rfl
 have Y:=jB (mi:=bP (aU b9 (mV 0) (mK (.int 1)))) (g:=dy 2 (aY (gN 0) (aY (gN 1) dE))) (t:=ic) (m:=ie) (js:=[none,none,ar 1]) (ρ:=[ar (aw n E),ar (.fz (zs.map D.int))]) (its:=E.map tupI) (λρ=>∃x y,ρ=[x,y,ar (.fz (zs.map D.int))]) (λ_=>b_) (Nn zs) rfl (by rw[NM];unfold lim;omega) ⟨none,none,rfl⟩
  (λd hd ρ ⟨x,y,hρ⟩=>by subst hρ;obtain⟨t,Z,rfl⟩:=NY.mp hd;obtain⟨a,b,rfl,T,ab,bn⟩:=w.el t Z;refine⟨[ar (.int a),ar (.int b),ar (.fz (zs.map D.int))],rfl,⟨_,_,rfl⟩,rfl,λ_=>?_⟩;exact EF ((bo (x:=.fz (zs.map D.int)) (y:=.int a) rfl rfl).trans (qe T (by omega))) ((bo (x:=.fz (zs.map D.int)) (y:=.int b) rfl rfl).trans (qe (by omega) (by omega)))) (by rw[em];exact bt _)
 rw[em]at Y;have X:((bc (E.map (qT zs))).map tupI).length<=lim:=by rw[NM];have:=wS.few;unfold lim;omega
 refine cQ (o:=.ret (aw n (bc (E.map (qT zs))))) (bS ?_) rfl;show(ae _ _ _>>=bw)=_;rw[bq (x:=.int n) rfl (bq (x:=.tup ((bc (E.map (qT zs))).map tupI)) ((cU (x:=.fz ((bc (E.map (qT zs))).map tupI)) ?_).trans (jC X)) (es:=aj) rfl),aq]
 ·unfold bw;exact if_pos o6
 ·show iF (bX bG _ [ar (aw n E),ar (.fz (zs.map D.int))])=_;rw[cU Y];show iF (kx ((E.map (qT zs)).map tupI))=_;rw[uR (λr U=>by
   have:=(bx (E.map (qT zs))).mem_iff.mpr U;obtain⟨a,b,e,_⟩:=wS.el r this;rw[e];rfl) (by rw[NM];omega)]
  exact cw (bt _) X
end
def sm(m:Nat)(f:Nat->Nat):Nat:=((dq m).map f).sum
theorem jZ(m:Nat)(f:Nat->Nat):sm (m+1) f=sm m f+f m:=by unfold sm;rw[List.range_succ];simp
theorem EH(f g:Nat->Nat):∀m,sm m (λi=>f i+g i)=sm m f+sm m g
 |0=>rfl
 |m+1=>by rw[jZ,jZ,jZ,EH f g m];omega
theorem yc{f g:Nat->Nat}:∀{m:Nat},(∀i,i<m->f i=g i)->sm m f=sm m g
 |0,_=>rfl
 |m+1,h=>by rw[jZ,jZ,yc λi Z=>h i (O1 Z),h m (PX m)]
theorem uT:∀m,sm m (λ_=>0)=0
 |0=>rfl
 |m+1=>by rw[jZ,uT m]
def kC(s t:List Int):Bool:=decide ((distinct (s++t)).length<4)
theorem yf{a b c d:Int}(X:a<b)(W:c<d):kC [a,b] [c,d]=decide (a=c\/a=d\/b=c\/b=d):=by
 unfold kC distinct A_;have e:(dq ([a,b]++[c,d]).length).map (λi=>([a,b]++[c,d]).getD i 0)=[a,b,c,d]:=rfl;rw[e];have Z:¬ a=b:=by omega
 have Y:¬ c=d:=by omega
 refine Pg.mpr ?_;show(l_ (l_ (l_ (l_ [] a) b) c) d).length<4↔_;have s1:l_ [] a=[a]:=rfl;have s2:l_ [a] b=[a,b]:=by simp[l_,Z]
 have s3:l_ [a,b] c=if a=c\/b=c then [a,b]else [a,b,c]:=by unfold l_;simp
 rw[s1,s2,s3];by_cases h:a=c\/b=c
 ·rw[if_pos h];have:(l_ [a,b] d).length<4:=by unfold l_;split<;>simp
  exact⟨λ_=>by omega,λ_=>this⟩
 ·rw[if_neg h];have s4:l_ [a,b,c] d=if a=d\/b=d then [a,b,c]else [a,b,c,d]:=by unfold l_;simp[Y]
  rw[s4];by_cases h3:a=d\/b=d
  ·rw[if_pos h3];exact⟨λ_=>by omega,λ_=>by simp⟩
  ·rw[if_neg h3];exact⟨λz=>by simp at z,λz=>by omega⟩
structure Tied(n:Nat)(E:List (List Int)):Prop where
 el:∀t∈E,∃a b:Int,t=[a,b]/\0<=a/\a<b/\b<n
 nd:E.Nodup
theorem MZ{p a b:Int}:bU p [a,b]=decide (p=a\/p=b):=by
 unfold bU;rw[O0];simp;constructor
 ·rintro(h|h)
  ·exact .inl h.symm
  ·exact .inr h.symm
 ·rintro(h|h)
  ·exact .inl h.symm
  ·exact .inr h.symm
def tZ(E:List (List Int))(a:Nat):List (List Int):=((hO (a+1) (E.length - (a+1))).filter λb=>kC (E.getD a []) (E.getD b [])).map λb:Nat=>[(a:Int),(b:Int)]
def c8(E:List (List Int)):List (List Int):=(dq E.length).flatMap (tZ E)
theorem Bc(s:List Int):∀rs:List (List Int),((rs.map iE).any λy=>eo y (iE s))=decide (s∈rs)
 |[]=>by simp
 | r::rs=>by
  rw[On,Rm,Bc s rs];have:eo (iE r) (iE s)=decide (r=s):=by unfold iE eo;exact mL r s
  rw[this,O0];simp only[ye,decide_eq_true_eq,eu];exact or_congr ⟨Eq.symm,Eq.symm⟩ Iff.rfl
theorem Bd{s:List Int}{rs:List (List Int)}:inD (tupI s) (.tup (rs.map tupI))=aC (.bl (decide (s∈rs))):=bM λS=>by
 unfold inD;have Z:gO S 60 (.tup (rs.map tupI))=ar (.tuple (rs.map iE)):=by show(mapP (gO S 59) (rs.map tupI)).map wM=_;rw[iY];rfl
 exact(oK (jY s) Z (r:=decide (s∈rs)) (by show ar (id ((rs.map iE).any λy=>eo y (iE s)))=_;rw[Bc];rfl)).mpr ⟨rfl,rfl⟩
theorem Ls{a b:Bool}:kH (.bl a) (.bl b)=aC (.bl (a==b)):=bM λS=>Lh.mpr ⟨rfl,rfl⟩
theorem M0{a b:Bool}:mW (.bl a) (.bl b)=aC (.bl (a !=b)):=bM λS=>by unfold mW;refine(fh mJ mJ).mpr ⟨?_,rfl⟩;cases a<;>cases b<;>rfl
def tB(E:List (List Int))(a b:Int):Bool:=decide ([if b<a then b else a,if b>a then b else a]∈E)
section
variable {n n':Nat}{E E':List (List Int)}
theorem mm{ρ:aE}{e1 e2:TM}{a b:Int}(Z:e1 ρ=aC (.int a))(Y:e2 ρ=aC (.int b)):dz (ae (ak minD (ae e1 (ae e2 aj))) (ae (ak maxD (ae e1 (ae e2 aj))) aj)) ρ=aC (tupI [if b<a then b else a,if b>a then b else a]):=by show(ae _ _ _>>=bw)=_;rw[bq ((call2 (F:=minD) Z Y).trans rfl) (bq ((call2 (F:=maxD) Z Y).trans rfl) (es:=aj) rfl),aq];unfold bw;exact if_pos o6
theorem sV{a b:Int}:dv [aw n E,.int a,.int b]=aC (.bl (tB E a b)):=
 cQ (o:=.ret (.bl (tB E a b))) (bS ((bo (y:=.tup (E.map tupI)) (mm (a:=a) (b:=b) rfl rfl) rfl).trans Bd)) rfl
def Lu(E E':List (List Int))(r:List Int)(p:Int)(i:Nat):Bool:=tB E (i:Int) (r.length:Int)==tB E' (r.getD i 0) p
def yg(E E':List (List Int))(r:List Int)(p:Int):Bool:= !bU p r && (dq r.length).all (Lu E E' r p)
def nB(E E':List (List Int))(r:List Int)(p:Int):D->D
 | .int i=>.bl (Lu E E' r p i.toNat)
 |d=>d
theorem M1(n:Nat):bR 0 n=(dq n).map λi:Nat=>D.int (i:Int):=by unfold bR;exact Qh λi _=>by rw[Q5]
theorem v9{m:TM}{ρ:aE}{n:Nat}(h:m ρ=aC (.int n))(Z:n<=1000):n5 m ρ=aC ⟨(dq n).map λi:Nat=>D.int (i:Int),.none⟩:=by have:=(vU h).trans (GL (by omega));rw[OS,M1]at this;exact this
theorem JK{r:List Int}{p:Int}(S:r.length<=100):gc [aw n E,aw n' E',tupI r,.int p]=aC (.bl (yg E E' r p)):=by
 have hlen:∀x,bX dj (mV 2) [ar (aw n E),ar (aw n' E'),ar (tupI r),ar (.int p),x]=aC (.int r.length):=λx=>by refine(cU (x:=tupI r) rfl).trans ?_;show aC (D.int (r.map D.int).length)=_;rw[NM]
 have Z:d5 inD (mV 3) (mV 2) [ar (aw n E),ar (aw n' E'),ar (tupI r),ar (.int p),ar (.int r.length)]=aC (bU p r):=bA (x:=.int p) (y:=tupI r) rfl rfl qS;refine cQ (o:=.ret (.bl (yg E E' r p))) ?_ rfl;unfold pV yg;refine(aI (cZ (hlen _))).trans ?_;cases hp:bU p r with
 |true=>exact fG ((b7 Z).trans ((if_pos hp).trans rfl))
 | false=>
  refine(aI (ρ':=[ar (aw n E),ar (aw n' E'),ar (tupI r),ar (.int p),ar (.int r.length)]) ((b7 Z).trans (if_neg (by rw[hp];decide)))).trans (bS ?_);have em:(((dq r.length).map λi:Nat=>D.int (i:Int)).filter λ_=>b_).map (nB E E' r p)=((dq r.length).map (Lu E E' r p)).map D.bl:=by rw[bO,Od,Od];rfl
  have Y:=jB (mi:=n5 (mV 4)) (g:=gN 0) (t:=lg) (m:=lh) (js:=[none,ar 0,ar 4,ar 1,ar 2,ar 3]) (ρ:=[ar (aw n E),ar (aw n' E'),ar (tupI r),ar (.int p),ar (.int r.length)]) (its:=(dq r.length).map λi:Nat=>D.int (i:Int))
   (λρ=>∃x,ρ=[x,ar (aw n E),ar (.int r.length),ar (aw n' E'),ar (tupI r),ar (.int p)]) (λ_=>b_) (nB E E' r p) (v9 rfl (by omega)) (by rw[NM,Oc];unfold lim;omega) ⟨none,rfl⟩
   (λd hd ρ ⟨x,hρ⟩=>by
    subst hρ;obtain⟨i,X,rfl⟩:=NY.mp hd;have X:=N0.mp X;refine⟨[ar (.int i),ar (aw n E),ar (.int r.length),ar (aw n' E'),ar (tupI r),ar (.int p)],rfl,⟨_,rfl⟩,rfl,λ_=>?_⟩;have U:=d7 (e:=ak dv (ae (mV 1) (ae (mV 0) (ae (mV 2) aj)))) (ρ:=[ar (.int i),ar (aw n E),ar (.int r.length),ar (aw n' E'),ar (tupI r),ar (.int p)]) ((nF (x:=aw n E) (y:=.int i) (z:=.int r.length) rfl rfl rfl).trans sV);have T:aU b9 (mV 4) (mV 0) [ar (.int i),ar (aw n E),ar (.int r.length),ar (aw n' E'),ar (tupI r),ar (.int p)]=aC (.int (r.getD i 0)):=by refine(bo (x:=tupI r) (y:=.int i) rfl rfl).trans ((A7 (by omega) (by omega)).trans ?_);rw[OS]
    have W:=d7 (e:=ak dv (ae (mV 3) (ae (aU b9 (mV 4) (mV 0)) (ae (mV 5) aj)))) ((nF (x:=aw n' E') (z:=.int p) rfl T rfl).trans sV);exact(bo U W).trans Ls) (by rw[em];exact sJ _)
  rw[em]at Y;refine(cU Y).trans (vV.trans ?_);rw[Q4];rfl
end
theorem GZ{its ds:List D}{d v:D}{g:lR}{b:cL}{ρ Z:aE}(h:g d ρ=aC Z)(Y:b Z=aC (.ret v)):gz ⟨its,.none⟩ g b (d::ds) ρ=aC (.ret v):=by rw[gz,cJ,aq,h,aq,Y];rfl
theorem wa{its ds:List D}{d:D}{g:lR}{b:cL}{ρ Z Y:aE}(h:g d ρ=aC Z)(X:b Z=aC (.nx Y)):gz ⟨its,.none⟩ g b (d::ds) ρ=gz ⟨its,.none⟩ g b ds Y:=by rw[gz,cJ,aq,h,aq,X];rfl
def ext(n:Nat)(E E':List (List Int))(r:List Int):List (List Int):=((dq n).filter λp:Nat=>yg E E' r p).map λp:Nat=>r++[(p:Int)]
def qf(n:Nat)(E E':List (List Int)):Nat->List (List Int)->List (List Int)
 |0,rs=>rs
 |k+1,rs=>qf n E E' k (rs.flatMap (ext n E E'))
def Cv:Option (List Int)->D
 |some r=>tupI r
 |none=>.non
section
variable {n:Nat}{E E':List (List Int)}
theorem Be:∀(k:Nat) (a b:List (List Int)),qf n E E' k (a++b)=qf n E E' k a++qf n E E' k b
 |0,_,_=>rfl
 |k+1,a,b=>by
  unfold qf;rw[List.flatMap_append,Be k]
theorem Bg:∀k:Nat,qf n E E' k []=[]
 |0=>rfl
 |k+1=>Bg k
theorem G0{r:List Int}{p:Int}{ρ:aE}{e1 e2:TM}(Z:e1 ρ=aC (tupI r))(X:e2 ρ=aC (.int p))(W:r.length<=100):aL (aU cW e1 (dz (ae e2 aj))) ρ=aC (tupI (r++[p])):=by
 have Y:dz (ae e2 aj) ρ=aC (tupI [p]):=by show(ae _ _ _>>=bw)=_;rw[bq X (es:=aj) rfl,aq];unfold bw;exact if_pos (show 1<=lim by unfold lim;omega)
 refine d7 ((bo Z Y).trans ?_);show bw (r.map D.int++[p].map D.int)=_;unfold bw;rw[<-OG,if_pos (by rw[NM,NP];show r.length+1<=lim;unfold lim;omega)];rfl
theorem Bh{Z:Nat}:∀(f:Nat) (r:List Int),r.length<=n->n<=7->n+1<=f+r.length->b0 f [aw n E,aw Z E',tupI r]=aC (Cv (qf n E E' (n - r.length) [r]).head?)
 |0,r,W,_,Y=>by omega
 | f + 1,r,hr,hn,hf=>by
  have hlen:bX dj (mV 2) [ar (aw n E),ar (aw Z E'),ar (tupI r),ar (.int n),none,none]=aC (.int r.length):=by refine(cU (x:=tupI r) rfl).trans ?_;show aC (D.int (r.map D.int).length)=_;rw[NM]
  have S:d5 kH (bX dj (mV 2)) (mV 3) [ar (aw n E),ar (aw Z E'),ar (tupI r),ar (.int n),none,none]=aC (decide ((r.length:Int)=n)):=bA hlen (y:=.int n) rfl CQ;by_cases hl:r.length=n
  ·refine cQ (o:=.ret (tupI r)) ?_ ?_
   ·exact(aI (cZ (x:=.int n) rfl)).trans (fG ((b7 S).trans ((if_pos (N1 (by omega))).trans rfl)))
   ·rw[hl,Ql];rfl
  ·obtain⟨k,Q⟩:∃k,n - r.length=k+1:=⟨n - r.length - 1,by omega⟩;have key:∀(post:List Nat) (x4 x5:Option D),∃o,gz ⟨(dq n).map λi:Nat=>D.int (i:Int),.none⟩ (gN 4) (dU (b0 f)) (post.map λi:Nat=>D.int (i:Int)) [ar (aw n E),ar (aw Z E'),ar (tupI r),ar (.int n),x4,x5]=aC o/\(match (qf n E E' k ((post.filter λp:Nat=>yg E E' r p).map λp:Nat=>r++[(p:Int)])).head? with|some z=>o= .ret (tupI z)|none=>∃ ρ,o= .nx ρ):=λpost=>by
    induction post with
    |nil=>exact λx4 x5=>⟨_,lE,by rw[List.filter_nil,Pl,Bg];exact⟨_,rfl⟩⟩
    | cons p post ih=>
     intro x4 x5;have T:bV (aL (ak gc (bg (mV 0) (bg (mV 1) (bg (mV 2) (bg (mV 4) aj)))))) [ar (aw n E),ar (aw Z E'),ar (tupI r),ar (.int n),ar (.int p),x5]=aC (yg E E' r p):=by refine e9 (d7 ?_);show(bg _ _ _>>=gc)=_;rw[show bg (mV 0) (bg (mV 1) (bg (mV 2) (bg (mV 4) aj))) [ar (aw n E),ar (aw Z E'),ar (tupI r),ar (.int n),ar (.int p),x5]=aC [aw n E,aw Z E',tupI r,.int p]from rfl,aq];exact JK (by omega)
     by_cases hp:yg E E' r p=b_
     ·have X:aL (ak (b0 f) (ae (mV 0) (ae (mV 1) (ae (aL (aU cW (mV 2) (dz (ae (mV 4) aj)))) aj)))) [ar (aw n E),ar (aw Z E'),ar (tupI r),ar (.int n),ar (.int p),x5]=aC (Cv (qf n E E' k [r++[(p:Int)]]).head?):=by
       refine d7 ((nF (x:=aw n E) (y:=aw Z E') rfl rfl (G0 rfl rfl (by omega))).trans ((Bh f (r++[(p:Int)]) (by rw[NP];show r.length+1<=n;omega) hn (by rw[NP];show n+1<=f+(r.length+1);omega)).trans ?_));rw[NP,show n - (r.length+[(p:Int)].length)=k by show n - (r.length+1)=k;omega]
      have R:((p::post).filter λp:Nat=>yg E E' r p).map (λp:Nat=>r++[(p:Int)])=[r++[(p:Int)]]++(post.filter λp:Nat=>yg E E' r p).map λp:Nat=>r++[(p:Int)]:=by rw[PR (p:=λp:Nat=>yg E E' r p) hp,On];rfl
      rw[R,Be];cases hz:(qf n E E' k [r++[(p:Int)]]).head? with
      | some z=>
       refine⟨.ret (tupI z),GZ rfl ((b7 T).trans ((if_pos hp).trans ((aI (cZ X)).trans ?_))),?_⟩
       ·rw[hz];exact(b7 (bA (x:=tupI z) (y:=.non) (b:=b_) rfl rfl rfl)).trans (if_pos rfl)
       ·cases hq:qf n E E' k [r++[(p:Int)]]with
        |nil=>rw[hq]at hz;cases hz
        |cons a l=>rw[hq]at hz;cases hz;rfl
      | none=>
       obtain⟨o,W,Y⟩:=ih (ar (.int p)) (ar .non);refine⟨o,?_,?_⟩
       ·refine(wa rfl ((b7 T).trans ((if_pos hp).trans ((aI (cZ X)).trans ?_)))).trans W;rw[hz];exact(b7 (bA (x:=.non) (y:=.non) (b:=c_) rfl rfl rfl)).trans (if_neg (by decide))
       ·cases hq:qf n E E' k [r++[(p:Int)]]with
        |nil=>exact Y
        |cons a l=>rw[hq]at hz;cases hz
     ·obtain⟨o,W,Y⟩:=ih (ar (.int p)) x5;rw[PU (p:=λp:Nat=>yg E E' r p) hp];exact⟨o,(wa rfl ((b7 T).trans ((if_neg hp).trans rfl))).trans W,Y⟩
   obtain⟨o,W,Y⟩:=key (dq n) none none;have U:qf n E E' (n - r.length) [r]=qf n E E' k (((dq n).filter λp:Nat=>yg E E' r p).map λp:Nat=>r++[(p:Int)]):=by rw[Q];show qf n E E' k (ext n E E' r++[])=_;rw[Oi];rfl
   rw[U];have hm:∀{o':Out},(gz ⟨(dq n).map λi:Nat=>D.int (i:Int),.none⟩ (gN 4) (dU (b0 f)) ((dq n).map λi:Nat=>D.int (i:Int)) [ar (aw n E),ar (aw Z E'),ar (tupI r),ar (.int n),none,none]>>=λo=>IT o (bE (mK .non)))=aC o'->dZ (b0 f) [ar (aw n E),ar (aw Z E'),ar (tupI r),none,none,none]=aC o':=λ{o'} h=>by unfold dZ;refine(aI (cZ (x:=.int n) rfl)).trans ((aI ((b7 S).trans (if_neg (by rw[N8];omega)))).trans ?_);rw[<-h];show(nz _ _ _ _>>=_)=_;unfold nz;rw[show n5 (mV 3) [ar (aw n E),ar (aw Z E'),ar (tupI r),ar (.int n),none,none]=_ from v9 rfl (by omega),aq]
   cases hz:(qf n E E' k (((dq n).filter λp:Nat=>yg E E' r p).map λp:Nat=>r++[(p:Int)])).head? with
   |some z=>
    rw[hz]at Y;subst Y;exact cQ (o:=.ret (tupI z)) (hm (by rw[W];rfl)) rfl
   |none=>
    rw[hz]at Y;obtain⟨ρ,rfl⟩:=Y;exact cQ (o:=.ret .non) (hm (by rw[W];rfl)) rfl
end
section
variable {n:Nat}{E E':List (List Int)}{a b i:Int}
theorem G1{n:Nat}{E E':List (List Int)}{r s:List Int}(h:s∈ext n E E' r):s.length=r.length+1:=by unfold ext at h;obtain⟨p,_,rfl⟩:=NY.mp h;rw[NP];rfl
theorem Lv{a b:Int}:mW (.int a) (.int b)=aC (.bl (!decide (a=b))):=bM λS=>by unfold mW;refine(fh lD lD).mpr ⟨?_,rfl⟩;simp[eo];rfl
theorem aW{p:Int}{t:List Int}:bU p t=b_↔p∈t:=by unfold bU;rw[Ru];exact⟨λ⟨x,hx,e⟩=>by rw[<-R8 e];exact hx,λh=>⟨p,h,Rv p⟩⟩
theorem gW:tB E a b=tB E b a:=by
 have e1:(if b<a then b else a)=(if a<b then a else b):=by split<;>split<;>omega
 have e2:(if b>a then b else a)=(if a>b then a else b):=by split<;>split<;>omega
 unfold tB;rw[e1,e2]
theorem wb(w:WebOk n E):tB E a a=false:=by unfold tB;rw[if_neg (Int.lt_irrefl a)];refine Ot λh=>?_;obtain⟨x,y,e,_,X,_⟩:=w.el _ h;have Z:=(OJ e).1;have Y:=(OJ (OJ e).2).1;omega
theorem iG(h:a<b):tB E a b=decide ([a,b]∈E):=by unfold tB;rw[if_neg (by omega),if_pos h]
def G2(E:List (List Int))(i:Int):Nat:=(E.filter (bU i)).length
theorem yh(w:WebOk n E)(P:0<=i)(L:i<n):G2 E i=((dq n).filter λj:Nat=>tB E i j).length:=by
 have T:E.Nodup:=w.ris.imp λ{a b} h e=>by subst e;rw[fL]at h;cases h
 have p:((E.filter (bU i)).map λt=>t.getD 0 0+t.getD 1 0 - i).Perm (((dq n).filter λj:Nat=>tB E i j).map λj:Nat=>(j:Int)):=by
  refine(Pq ?_ ?_).mpr λx=>?_
  ·refine Oz.mpr (Ox (λ{s t} hs X hne e=>hne ?_) (O3 Pm T));obtain⟨s1,s2⟩:=NU.mp hs;obtain⟨t1,t2⟩:=NU.mp X;obtain⟨x,y,rfl,_,O,_⟩:=w.el s s1;obtain⟨u,v,rfl,_,W,_⟩:=w.el t t1;have S:=aW.mp s2;have Y:=aW.mp t2;simp only[eu,ee,or_false]at S Y;have N:x+y - i=u+v - i:=e;have:x=u/\y=v:=by omega
   rw[this.1,this.2]
  ·exact Oz.mpr ((O3 Pm (Qd (n:=n))).imp λh e=>h (by omega))
  ·constructor
   ·intro h;obtain⟨t,X,rfl⟩:=NY.mp h;obtain⟨t1,t2⟩:=NU.mp X;obtain⟨u,v,rfl,K,W,R⟩:=w.el t t1;have Y:=aW.mp t2;simp only[eu,ee,or_false]at Y;show u+v - i∈_;rcases Y with rfl|rfl
    ·refine NY.mpr ⟨v.toNat,NU.mpr ⟨N0.mpr (by omega),?_⟩,by omega⟩;rw[show((v.toNat:Nat):Int)=v by omega,iG W];exact N1 t1
    ·refine NY.mpr ⟨u.toNat,NU.mpr ⟨N0.mpr (by omega),?_⟩,by omega⟩;rw[show((u.toNat:Nat):Int)=u by omega,gW,iG W];exact N1 t1
   ·intro h;obtain⟨j,U,rfl⟩:=NY.mp h;obtain⟨Q,Z⟩:=NU.mp U;rcases Int.lt_trichotomy i j with c|c|c
    ·rw[iG c]at Z;exact NY.mpr ⟨[i,(j:Int)],NU.mpr ⟨OE Z,aW.mpr (.head _)⟩,by show i+(j:Int) - i=j;omega⟩
    ·rw[<-c,wb w]at Z;cases Z
    ·rw[gW,iG c]at Z;exact NY.mpr ⟨[(j:Int),i],NU.mpr ⟨OE Z,aW.mpr (.tail _ (.head _))⟩,by show(j:Int)+i - i=j;omega⟩
 have:=p.length_eq;rw[NM,NM]at this;exact this
structure Part(n:Nat)(E E':List (List Int))(r:List Int):Prop where
 nd:r.Nodup
 el:∀x∈r,0<=x/\x<n
 ok:∀j,j<r.length->∀i,i<j->tB E (i:Int) (j:Int)=tB E' (r.getD i 0) (r.getD j 0)
theorem Part.nil:Part n E E' []:=⟨.nil,(λx h=>by cases h),λj h=>by cases h⟩
theorem qg{r s:List Int}{j:Nat}(h:j<r.length):(r++s).getD j 0=r.getD j 0:=by rw[NS,NS,Os h]
theorem getD_last{r:List Int}{p:Int}:(r++[p]).getD r.length 0=p:=by rw[NS,O9 (NQ _),Ql];rfl
theorem Part.ext{r s:List Int}(h:Part n E E' r)(hs:s∈ext n E E' r):Part n E E' s:=by
 unfold W.ext at hs;obtain⟨p,Y,rfl⟩:=NY.mp hs;obtain⟨Y,T⟩:=NU.mp Y;have Y:=N0.mp Y;unfold yg at T;rw[OA,Of]at T;obtain⟨g1,g2⟩:=T;have g1:(p:Int)∉r:=λz=>by rw[aW.mpr z]at g1;cases g1
 refine⟨QE.mpr ⟨h.nd,OH _ _,λa S b R e=>?_⟩,λx Z=>?_,λj X i U=>?_⟩
 ·rw[NW.mp R]at e;exact g1 (e ▸ S)
 ·rcases OB.mp Z with Z|Z
  ·exact h.el x Z
  ·rw[NW.mp Z];exact⟨by omega,by omega⟩
 ·rw[NP]at X;have X:j<r.length+1:=X;by_cases c:j<r.length
  ·rw[qg c,qg (by omega)];exact h.ok j c i U
  ·have:j=r.length:=by omega
   subst this;rw[getD_last,qg U];have:=g2 i (N0.mpr U);unfold Lu at this;exact R8 this
theorem sW:∀(k b:Nat) (rs:List (List Int)),(∀r∈rs,Part n E E' r/\r.length=b)->∀z∈qf n E E' k rs,Part n E E' z/\z.length=b+k
 |0,b,rs,h,z,hz=>h z hz
 | k+1,b,rs,h,z,hz=>by
  have:=sW k (b+1) (rs.flatMap (W.ext n E E')) (λs hs=>by obtain⟨r,Y,Z⟩:=Oy.mp hs;obtain⟨p,l⟩:=h r Y;exact⟨p.ext Z,by rw[G1 Z,l]⟩) z hz
  rw[show b+(k+1)=b+1+k by omega];exact this
abbrev L0(n:Nat):List Int:=(dq n).map λj:Nat=>(j:Int)
theorem Part.perm{z:List Int}(h:Part n E E' z)(W:z.length=n):z.Perm (L0 n):=by
 refine(Pq h.nd (Oz.mpr ((Qd (n:=n)).imp λh e=>h (by omega)))).mpr λx=>⟨λZ=>?_,λZ=>?_⟩
 ·obtain⟨h0,X⟩:=h.el x Z;exact NY.mpr ⟨x.toNat,N0.mpr (by omega),by omega⟩
 ·exact Pb λc=>by
   have:(x::z).Nodup:=ON.mpr ⟨c,h.nd⟩;have:=mM (m:=L0 n) this λy Y=>by
    rcases N6.mp Y with rfl|Y
    ·exact Z
    ·obtain⟨h0,X⟩:=h.el y Y;exact NY.mpr ⟨y.toNat,N0.mpr (by omega),by omega⟩
   rw[Ou,W,NM,Oc]at this;omega
theorem getD_map{z:List Int}:z=(dq z.length).map λj=>z.getD j 0:=by refine Qe (by simp) λi Z Y=>?_;simp[hY,Z]
theorem G3{z:List Int}(w:WebOk n E)(X:WebOk n E')(h:Part n E E' z)(Z:z.length=n){i:Nat}(S:i<n):G2 E' (z.getD i 0)=G2 E (i:Int):=by
 have T:z.getD i 0∈z:=by rw[NS,NR (by omega)];exact Pf _
 obtain⟨z0,W⟩:=h.el _ T;rw[yh X z0 W,yh w (by omega) (by omega)];have e1:((dq n).filter λj:Nat=>tB E' (z.getD i 0) j).length=((L0 n).filter λx=>tB E' (z.getD i 0) x).length:=by rw[PK,NM];rfl
 have e2:=((h.perm Z).filter λx=>tB E' (z.getD i 0) x).length_eq;have U:∀c,(z.filter λx=>tB E' c x).length=((dq n).filter λj=>tB E' c (z.getD j 0)).length:=λc=>by
  conv=>lhs;rw[getD_map (z:=z),Z]
  rw[PK,NM];rfl
 rw[e1, <-e2,U];congr 1;refine List.filter_congr λj Y=>?_;have Y:=N0.mp Y;show tB E' (z.getD i 0) (z.getD j 0)=tB E i j;rcases Rk i j with c|c|c
 ·exact(h.ok j (by omega) i c).symm
 ·rw[c,wb w,wb X]
 ·rw[gW,gW (E:=E)];exact(h.ok i (by omega) j c).symm
def nA(n:Nat)(E:List (List Int)):List Int:=(dq n).map λi:Nat=>(G2 E (i:Int):Int)
theorem Aa{l Z:List Int}(h:l.Perm Z):sortI l=sortI Z:=
 Rf (le:=(· <=·)) (λa b _ _ x y=>Int.le_antisymm x y) (gg l) (gg Z) (((sortI_perm l).trans h).trans (sortI_perm Z).symm)
theorem EI{z:List Int}(w:WebOk n E)(T:WebOk n E')(U:z∈qf n E E' n [[]]):sortI (nA n E)=sortI (nA n E'):=by
 obtain⟨h,Z⟩:=sW n 0 [[]] (λr Y=>by rw[NW.mp Y];exact⟨.nil,rfl⟩) z U;rw[R3]at Z;refine Aa ?_;have e:nA n E=z.map λx=>(G2 E' x:Int):=by
  conv=>rhs;rw[getD_map (z:=z),Z]
  rw[Od];unfold nA;refine Qh λi W=>?_;show(G2 E (i:Int):Int)=G2 E' (z.getD i 0);rw[G3 w T h Z (N0.mp W)]
 have X:nA n E'=(L0 n).map λx=>(G2 E' x:Int):=by unfold nA;rw[Od];rfl
 rw[e,X];exact(h.perm Z).map _
end
section
variable {n n':Nat}{E E':List (List Int)}{d e:D}
theorem ni(Z:n<=14)(w:WebOk n E):bN [aw n E]=aC .non:=by rw[Ez z5 (v8 w),if_pos (v7 (by omega) (by omega) w)]
theorem sX(Z:n<=14)(w:WebOk n E):bZ [aw n E,.int 7]=if 7<n then M.raise (great n)else aC .non:=by
 have Y:d5 xp (aU b9 (mV 0) (mK (.int 0))) (mV 1) [ar (aw n E),ar (.int 7)]=aC (decide (7<(n:Int))):=bA (x:=.int n) (y:=.int 7) rfl rfl rfl;by_cases h:7<n
 ·rw[if_pos h];exact kA ((aI (hU (d7 ((cz rfl).trans (ni Z w))))).trans ((b7 Y).trans ((if_pos (N1 (by omega))).trans rfl)))
 ·rw[if_neg h];exact eZ ((aI (hU (d7 ((cz rfl).trans (ni Z w))))).trans ((b7 Y).trans (if_neg (by rw[N8];omega)))) rfl
theorem mapped(T:n<=14)(w:WebOk n E)(Y:n'<=14)(U:WebOk n' E'):fE [aw n E,aw n' E']=if 7<n then M.raise (great n)else if 7<n' then M.raise (great n')else aC .non:=by
 have W:∀{m:cL},aF (nO (aL (ak bN (ae (mV 0) aj)))) (aF (nO (aL (ak bN (ae (mV 1) aj)))) m) [ar (aw n E),ar (aw n' E')]=m [ar (aw n E),ar (aw n' E')]:=λ{m}=>(aI (hU (d7 ((cz rfl).trans (ni T w))))).trans (aI (hU (d7 ((cz rfl).trans (ni Y U)))));have Z:=sX T w;have X:=sX Y U;by_cases h:7<n
 ·rw[if_pos h]at Z⊢;exact kA (W.trans (zY (xY (Nk ((call2 rfl rfl).trans Z)))))
 ·rw[if_neg h]at Z⊢;by_cases h':7<n'
  ·rw[if_pos h']at X⊢;exact kA (W.trans ((aI (hU (d7 ((call2 rfl rfl).trans Z)))).trans (xY (Nk ((call2 rfl rfl).trans X)))))
  ·rw[if_neg h']at X⊢;exact eZ (W.trans ((aI (hU (d7 ((call2 rfl rfl).trans Z)))).trans (hU (d7 ((call2 rfl rfl).trans X))))) rfl
def qI(i:Int):D->Bool
 | .tup ds=>match intsOf ds with
  |some ns=>bU i ns
  |none=>c_
 |_=>c_
theorem EJ{i:Int}{t:List Int}:qI i (tupI t)=bU i t:=by show(match intsOf (t.map D.int)with|some ns=>bU i ns|none=>c_)=_;rw[fc]
def Np(E:List (List Int)):D->D
 | .int i=>.int (G2 E i)
 |d=>d
theorem HK(Y:n<=14)(w:WebOk n E):fj [aw n E]=aC (.fz ((nA n E).map D.int)):=by
 have hf:=w.few;have em:(((dq n).map λi:Nat=>D.int (i:Int)).filter λ_=>b_).map (Np E)=(nA n E).map D.int:=by unfold nA;rw[bO,Od,Od];rfl
 have Z:=xZ (mi:=n5 (mV 1)) (g:=gN 0) (t:=lq) (m:=lr) (js:=[none,ar 2]) (ρ:=[ar (aw n E),ar (.int n),ar (.tup (E.map tupI))]) (its:=(dq n).map λi:Nat=>D.int (i:Int)) (λρ=>∃x,ρ=[x,ar (.tup (E.map tupI))]) (λ_=>b_) (Np E) (v9 rfl (by omega)) (by rw[NM,Oc];unfold lim;omega) ⟨none,rfl⟩
  (λd hd ρ ⟨x,hρ⟩=>by
   subst hρ;obtain⟨i,_,rfl⟩:=NY.mp hd;refine⟨[ar (.int i),ar (.tup (E.map tupI))],rfl,⟨_,rfl⟩,rfl,λ_=>?_⟩;have e2:((E.map tupI).filter (qI i)).map id=(E.filter (bU i)).map tupI:=by rw[RB,PK];congr 1;exact List.filter_congr λt _=>EJ
   have h:=jB (mi:=bP (mV 1)) (g:=gN 0) (t:=ll) (m:=lp) (js:=[none,ar 0]) (ρ:=[ar (.int i),ar (.tup (E.map tupI))]) (its:=E.map tupI) (λρ=>∃x,ρ=[x,ar (.int i)]) (qI i) id rfl (by rw[NM];unfold lim;omega) ⟨none,rfl⟩
    (λd hd ρ ⟨x,hρ⟩=>by subst hρ;obtain⟨t,_,rfl⟩:=NY.mp hd;refine⟨[ar (tupI t),ar (.int i)],rfl,⟨_,rfl⟩,?_,λ_=>rfl⟩;rw[EJ];exact bA (x:=.int i) (y:=tupI t) rfl rfl qS) (by rw[e2];exact bt _)
   rw[e2]at h;refine(cU h).trans ?_;show aC (D.int ((E.filter (bU i)).map tupI).length)=_;rw[NM];rfl) (by rw[em];exact gU _)
 rw[em]at Z;exact eZ (o:=.ret (.fz ((nA n E).map D.int))) ((aI (hU (d7 ((cz rfl).trans (ni Y w))))).trans ((aI (ρ':=[ar (aw n E),ar (.int n),ar (.tup (E.map tupI))]) rfl).trans (bS Z))) rfl
theorem qh{l:List Int}{e:TM}{ρ:aE}(h:e ρ=aC (.fz (l.map D.int)))(Z:l.length<64):aL (bX bG e) ρ=aC (.fz ((sortI l).map D.int)):=by
 unfold aL;rw[cU h];have:bG [.fz (l.map D.int)]=bQ ((sortI l).map D.int):=by show(match intsOf (l.map D.int)with|some ns=>if ns.length<64 then bQ ((sortI ns).map D.int)else M.fail|none=>_)=_;rw[fc];exact if_pos Z
 rw[this];exact cw (gU _) (by rw[NM,(sortI_perm l).length_eq];unfold lim;omega)
theorem G4{a b:List Int}:mW (.fz (a.map D.int)) (.fz (b.map D.int))=aC (.bl (!decide (a=b))):=bM λS=>by
 have Z:∀l:List Int,gO S 60 (.fz (l.map D.int))=ar (.list (l.map mj)):=λl=>by show(mapP (gO S 59) (l.map D.int)).map pd=_;rw[ng];rfl
 unfold mW;refine(fh (Z a) (Z b)).mpr ⟨?_,rfl⟩;have:eo (.list (a.map mj)) (.list (b.map mj))=decide (a=b):=by unfold eo;exact mL a b
 rw[this]
theorem EK(R:n<=7)(w:WebOk n E)(U:n'<=7)(Y:WebOk n' E'):mG [aw n E,aw n' E']=aC (if n=n' then Cv (qf n E E' n [[]]).head? else .non):=by
 have hm:fE [aw n E,aw n' E']=aC .non:=by rw[mapped (by omega) w (by omega) Y,if_neg (by omega),if_neg (by omega)]
 have dl:∀(m:Nat) F,(nA m F).length=m:=λm F=>by unfold nA;rw[NM,Oc]
 have W:=qh (d7 (e:=ak fj (ae (mV 0) aj)) (ρ:=[ar (aw n E),ar (aw n' E')]) ((cz rfl).trans (HK (by omega) w))) (by rw[dl];omega);have T:=qh (d7 (e:=ak fj (ae (mV 1) aj)) (ρ:=[ar (aw n E),ar (aw n' E')]) ((cz rfl).trans (HK (by omega) Y))) (by rw[dl];omega);have X:d5 mW (aL (bX bG (aL (ak fj (ae (mV 0) aj))))) (aL (bX bG (aL (ak fj (ae (mV 1) aj))))) [ar (aw n E),ar (aw n' E')]=aC (!decide (sortI (nA n E)=sortI (nA n' E'))):=bA W T G4;by_cases h:sortI (nA n E)=sortI (nA n' E')
 ·have Z:n=n':=by
   have:=P6 B' h;rw[(sortI_perm _).length_eq,(sortI_perm _).length_eq,dl,dl]at this;exact this
  subst Z;rw[if_pos rfl];have hf:fq [aw n E,aw n E',tupI []]=aC (Cv (qf n E E' n [[]]).head?):=Bh 8 [] (Og _) R (by show n+1<=8;omega);exact eZ (o:=.ret (Cv (qf n E E' n [[]]).head?)) ((aI (hU (d7 ((call2 rfl rfl).trans hm)))).trans ((aI ((b7 X).trans (if_neg (by rw[h];simp)))).trans (bS (d7 ((nF (x:=aw n E) (y:=aw n E') (z:=tupI []) rfl rfl rfl).trans hf))))) rfl
 ·have S:(if n=n' then Cv (qf n E E' n [[]]).head? else D.non)= .non:=by
   by_cases Z:n=n'
   ·subst Z;rw[if_pos rfl];cases hq:qf n E E' n [[]]with
    |nil=>rfl
    |cons z l=>exact(h (EI w Y (z:=z) (by rw[hq];exact .head _))).elim
   ·rw[if_neg Z]
  rw[S];exact eZ (o:=.ret .non) ((aI (hU (d7 ((call2 rfl rfl).trans hm)))).trans (fG ((b7 X).trans ((if_pos (by simp[h])).trans rfl)))) rfl
end
def NH:D->Bool
 | .int _=>b_
 | .bl _=>b_
 | .non=>b_
 | .str s=>PyData.strOk s
 | .tup ds=>(intsOf ds).isSome
 |_=>c_
def isTup:D->Bool
 | .tup _=>b_
 |_=>c_
inductive Th:D->Prop
 |tup {ds:List D}:ds.length<=50->(∀x∈ds,NH x=b_)->Th (.tup ds)
 |oth {d:D}:Gm d=b_->isTup d=c_->Th d
theorem uU{p q:fe}{b c:Bool}{ρ:aE}(Z:p ρ=aC b)(Y:b=c_->q ρ=aC c):yP p q ρ=aC (b||c):=by
 show(p ρ>>=_)=_;rw[Z];cases b with
 |true=>rfl
 |false=>exact Y rfl
theorem not_eq{t:fe}{b:Bool}{ρ:aE}(h:t ρ=aC b):eQ t ρ=aC (!b):=by show(t ρ>>=_)=_;rw[h];rfl
def M3(E E':List (List Int))(z:List Int):Bool:=(dq z.length).all λj=>yg E E' (z.take j) (z.getD j 0)
def M4(n n':Nat)(E E':List (List Int)):D->Bool
 | .tup ds=>decide (n'=n) && (decide (ds.length=n) && (ds.all (gu n) && match intsOf ds with
  |some z=>M3 E E' z
  |none=>c_))
 |_=>c_
theorem Cw(z:List Int):mr (z.map D.int)=(dq z.length).map λi:Nat=>.tup [.int (i:Int),.int (z.getD i 0)]:=by
 unfold mr;refine Qe (by simp) λi X Y=>?_;have Z:i<z.length:=by simpa using Y
 simp[hY,Z]
section
variable {n n':Nat}{E E':List (List Int)}
theorem G5{z:List Int}{i:Nat}{ρ:aE}{e1 e2:TM}(Z:e1 ρ=aC (tupI z))(X:e2 ρ=aC (.int i))(W:z.length<=100):aL (DO e1 oN (oS e2)) ρ=aC (tupI (z.take i)):=by refine d7 ?_;show(e1 ρ>>=λx=>oN ρ>>=λlo=>oS e2 ρ>>=λY=>vC x lo Y)=_;rw[Z,aq,show oN ρ=aC none from rfl,aq,show oS e2 ρ=aC (ar (i:Int)) by unfold oS;rw[X];rfl,aq];show bw (S3.cutD (z.map D.int) none (ar (i:Int)))=_;rw[Lo, <-List.map_take];unfold bw;rw[if_pos (by rw[NM,OO];unfold lim;omega)];rfl
end
def Nq(t:List Int):D->D
 | .int p=>.bl (bU p t)
 |d=>d
theorem EL{s t:List Int}(hs:s.length<=1000):f9 [tupI s,tupI t]=aC (.bl (s.any λp=>bU p t)):=by
 have Z:(s.map D.int).length<=lim:=by rw[NM];unfold lim;omega
 have em:((s.map D.int).filter λ_=>b_).map (Nq t)=(s.map λp=>bU p t).map D.bl:=by rw[bO,Od,Od];rfl
 have h:=jB (mi:=bP (mV 0)) (g:=gN 0) (t:=jf) (m:=jg) (js:=[none,ar 1]) (ρ:=[ar (tupI s),ar (tupI t)]) (its:=s.map D.int) (λρ=>∃x,ρ=[x,ar (tupI t)]) (λ_=>b_) (Nq t) rfl Z ⟨none,rfl⟩ (λd hd ρ ⟨x,hρ⟩=>by subst hρ;obtain⟨p,_,rfl⟩:=NY.mp hd;exact⟨_,rfl,⟨_,rfl⟩,rfl,λ_=>(bo (x:=.int p) (y:=tupI t) rfl rfl).trans qS⟩) (by rw[em];exact sJ _)
 rw[em]at h;refine cQ (bS ((cU h).trans Eo)) ?_;show aC _=aC _;rw[R0];rfl
theorem EM{a b c d:Int}(Z:a<b)(Y:c<d):([a,b].any λp=>bU p [c,d])=kC [a,b] [c,d]:=by
 rw[yf Z Y,O0];simp only[RD,List.any_nil,MZ,Bool.or_false,ye,decide_eq_true_eq];constructor
 ·rintro((h|h)|(h|h))<;>simp[h]
 ·rintro(h|h|h|h)<;>simp[h]
def M5(E:List (List Int)):D->Bool
 | .tup [.int a,.int b]=>kC (E.getD a.toNat []) (E.getD b.toNat [])
 |_=>c_
theorem nj(E:List (List Int)):(((bB E.length).map tupI).filter (M5 E)).map id=(c8 E).map tupI:=by rw[RB,PK];congr 1;unfold bB c8;rw[List.filter_flatMap];congr 1;funext a;unfold lF tZ;rw[PK];congr 1
theorem Lw{n:Nat}{E:List (List Int)}(L:n<=14)(w:WebOk n E)(J:E.length<=7):iX [aw n E]=aC (aw E.length (c8 E)):=by
 have hf:eH [aw n E]=aC .non:=by rw[Lm L w,if_neg (by omega)]
 have Z:((bB E.length).map tupI).length<=lim:=by rw[NM];exact NZ (x9 (by omega)) (by unfold lim;omega)
 have R:=xZ (mi:=bP (aL (ak cO (ae (mV 2) aj)))) (g:=dy 2 (aY (gN 0) (aY (gN 1) dE))) (t:=iO) (m:=iP) (js:=[none,none,ar 1]) (ρ:=[ar (aw n E),ar (.tup (E.map tupI)),ar (.int E.length)])
  (its:=(bB E.length).map tupI) (λρ=>∃x y,ρ=[x,y,ar (.tup (E.map tupI))]) (M5 E) id
  (by
   have:aL (ak cO (ae (mV 2) aj)) [ar (aw n E),ar (.tup (E.map tupI)),ar (.int E.length)]=aC (.fz ((bB E.length).map tupI)):=by unfold aL;rw[cz (x:=.int E.length) rfl];exact A4 (by omega)
   unfold bP;rw[this];rfl) Z ⟨none,none,rfl⟩
  (λd hd ρ ⟨x,y,hρ⟩=>by
   subst hρ;obtain⟨t,U,rfl⟩:=NY.mp hd;obtain⟨a,b,rfl,h0,P,K⟩:=sQ t U;obtain⟨a,rfl⟩:=Oo h0;obtain⟨b,rfl⟩:=Oo (show 0<=b by omega);have Y:a<E.length:=by omega
   have X:b<E.length:=by omega
   obtain⟨p,q,Q,_,S,_⟩:=w.el (E.getD a []) (getD_in Y);obtain⟨r,u,N,_,W,_⟩:=w.el (E.getD b []) (getD_in X);refine⟨[ar (.int a),ar (.int b),ar (.tup (E.map tupI))],rfl,⟨_,_,rfl⟩,?_,λ_=>?_⟩
   ·refine e9 (d7 ((call2 ((bo (x:=.tup (E.map tupI)) (y:=.int a) rfl rfl).trans (qc Y)) ((bo (x:=.tup (E.map tupI)) (y:=.int b) rfl rfl).trans (qc X))).trans ?_));rw[EL (by rw[Q];exact(by decide:2<=1000))];show aC (D.bl _)=aC (D.bl (kC (E.getD (a:Int).toNat []) (E.getD (b:Int).toNat [])));rw[OS,OS,Q,N,EM S W]
   ·rfl) (by rw[nj];exact bt _)
 rw[nj]at R;have T:((c8 E).map tupI).length<=lim:=by rw[<-nj,RB];exact NZ (Om _ _) Z
 refine eZ (o:=.ret (aw E.length (c8 E))) ?_ rfl;unfold pW;show aF _ _ [ar (aw n E),none,none]=_;rw[aI (hU (d7 ((cz rfl).trans hf))),aI (cZ (x:=.tup (E.map tupI)) rfl)];have hlen:bX dj (mV 1) [ar (aw n E),ar (.tup (E.map tupI)),none]=aC (.int E.length):=by refine(cU (x:=.tup (E.map tupI)) rfl).trans ?_;show aC (D.int (E.map tupI).length)=_;rw[NM]
 show aF _ _ [ar (aw n E),ar (.tup (E.map tupI)),none]=_;rw[aI (cZ hlen)];refine bS ?_;have U:=(cU (f:=bY) R).trans (jC T);have O:ae (mV 2) (ae (bX bY (aL (yQ (a7 (bP (aL (ak cO (ae (mV 2) aj)))) (dy 2 (aY (gN 0) (aY (gN 1) dE))) iO iP [none,none,ar 1])))) aj) [ar (aw n E),ar (.tup (E.map tupI)),ar (.int E.length)]=aC [.int E.length,.tup ((c8 E).map tupI)]:=by show(aC (D.int E.length)>>=λx=>(bX bY _ _>>=λy=>_)>>=_)=_;rw[aq,U];rfl
 show(ae _ _ [ar (aw n E),ar (.tup (E.map tupI)),ar (.int E.length)]>>=bw)=_;rw[O,aq];unfold bw;rw[if_pos (show[D.int E.length,.tup ((c8 E).map tupI)].length<=lim from o6)]
end W
namespace S7
open PySem PySem.Spec PyProof.Rows L2 S3
section
variable {X:Cx}{E:XD}{scope:Scope}{Nc:List Str}{js:List (Option Nat)}{elt tg iter:Expr}{ifs:List Expr}{pos:Pos}{mi:S3.aE->M Iter}{g:lR}{t:S3.aE->M Bool}{m:TM}
end
end S7
namespace W
open PySem PySem.Spec PyProof.Rows L2 S3 S4 S7
section
variable {α:Type}{l:List α}{mk f:α->D}{mi:aE->M Iter}{g:lR}{t:fe}{m:TM}{ρ:aE}{js:List (Option Nat)}{its:List D}
theorem EN(R:aE->Prop)(q:α->Bool):∀(l:List α) (ρ:aE),R ρ->(∀a∈l,∀ ρ,R ρ->∃Z,g (mk a) ρ=aC Z/\R Z/\t Z=aC (q a)/\(q a=b_->m Z=aC (f a)))->c0 ⟨its,.none⟩ g t m (l.map mk) ρ=aC ((l.filter q).map f)
 |[],ρ,_,_=>by unfold c0;rw[cJ];rfl
 |a::l,ρ,hR,h=>by
  obtain⟨Z,W,S,Y,U⟩:=h a (.head _) ρ hR;have T:=EN R q l Z S λb X=>h b (.tail _ X);rw[On];unfold c0;rw[cJ,aq,W,aq,Y,aq,T];cases hq:q a with
  |true=>rw[PR hq,if_pos rfl,U hq,aq];rfl
  |false=>rw[PU (by rw[hq];decide),if_neg (by decide)]
theorem EO(R:aE->Prop)(q:α->Bool)(Z:mi ρ=aC ⟨l.map mk,.none⟩)(X:l.length<=lim)(W:R (iK js ρ))(Y:∀a∈l,∀ ρ,R ρ->∃ ρ1,g (mk a) ρ=aC ρ1/\R ρ1/\t ρ1=aC (q a)/\(q a=b_->m ρ1=aC (f a))):
  a7 mi g t m js ρ=bQ ((l.filter q).map f):=by
 unfold a7;rw[Z,aq];unfold gM;rw[if_pos (by show(l.map mk).length<=lim;rw[NM];exact X)];show(c0 _ g t m (l.map mk) _>>=_)=_;rw[EN R q l _ W Y,aq]
theorem kD(R:aE->Prop)(q:α->Bool)(Y:mi ρ=aC ⟨l.map mk,.none⟩)(Z:l.length<=lim)(U:R (iK js ρ))(X:∀a∈l,∀ ρ,R ρ->∃ ρ1,g (mk a) ρ=aC ρ1/\R ρ1/\t ρ1=aC (q a)/\(q a=b_->m ρ1=aC (f a)))
  (W:df 0 ((l.filter q).map f)=b_):aL (a7 mi g t m js) ρ=aC (.fz ((l.filter q).map f)):=by
 unfold aL;rw[EO R q Y Z U X];exact cw W (by rw[NM];exact NZ (Om _ _) Z)
theorem ER(R:aE->Prop)(q:α->Bool)(Y:mi ρ=aC ⟨l.map mk,.none⟩)(Z:l.length<=lim)(U:R (iK js ρ))(X:∀a∈l,∀ ρ,R ρ->∃ ρ1,g (mk a) ρ=aC ρ1/\R ρ1/\t ρ1=aC (q a)/\(q a=b_->m ρ1=aC (f a)))
  (W:df 0 ((l.filter q).map f)=b_):aL (yQ (a7 mi g t m js)) ρ=aC (.fz ((l.filter q).map f)):=by
 unfold aL yQ;rw[EO R q Y Z U X,uL];exact cw W (by rw[NM];exact NZ (Om _ _) Z)
end
theorem ES{S:aK}{xs:List D}(Z:xs.length<=lim):bY [.lst S.length] (S++[xs])=ar (.ok (.tup xs),S++[xs]):=by show(getL S.length>>=bw) (S++[xs])=_;rw[aR (gT (d4 (S:=S) (xs:=xs)))];unfold bw;rw[if_pos Z];rfl
theorem forA{α:Type}{mk:α->D}{f:α->List D}{g:lR}{b:cL}{its:List D}{S:aK}(c:Nat)(R:aE->Prop):∀(l:List α) (xs:List D) (ρ:aE),R ρ->xs.length+l.length*c<=1000->
  (∀a∈l,(f a).length<=c/\∀ ρ xs,R ρ->xs.length<=1000->∃Y Z,g (mk a) ρ=aC Y/\R Z/\b Y (S++[xs])=ar (.ok (.nx Z),S++[xs++f a]))->
  ∃ ρ',R ρ'/\gz ⟨its,.none⟩ g b (l.map mk) ρ (S++[xs])=ar (.ok (.nx ρ'),S++[xs++l.flatMap f])
 |[],xs,ρ,hR,_,_=>⟨ρ,hR,by rw[Pl,lE,Rt,Oi];rfl⟩
 |a::l,xs,ρ,hR,hl,h=>by
  rw[Ou,PM]at hl;obtain⟨P,U⟩:=h a (.head _);obtain⟨Y,Z,e1,W,e2⟩:=U ρ xs hR (by omega);obtain⟨ρ',Q,T⟩:=forA c R l (xs++f a) Z W (by rw[NP];omega) λx X=>h x (.tail _ X);refine⟨ρ',Q,?_⟩;rw[On,sL e1 e2,T,O4,OF]
theorem Bi{c:M D}{S:aK}{us:List D}(h:c S=ar (.ok (.lst S.length),S++[us]))(Y:df 0 us=b_):iF c S=ar (.ok (.fz us),S):=by obtain⟨d,Z,e,rfl,rfl⟩:=xT (Q:=λd Z=>d= .fz us/\Z=S) ⟨_,_,h,[us],S.length,us,rfl,rfl,d4,NQ _,lb (Og _) _ Y,rfl,rfl⟩;exact e
theorem things{es:aE->M (List D)}{ρ:aE}{us:List D}(Y:es ρ=aC us)(Z:df 0 us=b_)(X:us.length<=50):aL (cX es) ρ=aC (.fz us):=by show iF (es ρ>>=bQ)=_;rw[Y,aq];exact cw Z (by unfold lim;omega)
theorem ET{f:D->List D->M D}{e1 e2:TM}{ρ:aE}{xs:List D}{y:D}(Z:e1 ρ=aC (.tup xs))(Y:e2 ρ=aC y):El f e1 e2 ρ=f (.tup xs) [y]:=by unfold El;rw[Z,aq,show Nj (.tup xs)=aC ()from rfl,aq,Y,aq,aq,aq]
theorem JL{α:Type}(g:α->Int)(l:List α):df 0 (l.map λa=>D.int (g a))=true:=by have:=gU (l.map g);rw[Od]at this;exact this
section
variable {n:Nat}{E:List (List Int)}{d e:D}
theorem nk{us:List D}{ρ:aE}{e:TM}(h:e ρ=aC (.tup us)):bX dj e ρ=aC (.int us.length):=cU h
theorem sY{us:List D}{ρ:aE}{e:TM}(h:e ρ=aC (.fz us)):bX dj e ρ=aC (.int us.length):=cU h
theorem fL:∀l:List Int,HT.lexLt l l=c_
 |[]=>rfl
 |x::l=>by rw[HT.lexLt_cons,if_pos rfl];exact fL l
end
def cF(E:List (List Int))(p:Int):List Int:=((dq E.length).filter λi=>bU p (E.getD i [])).map λi:Nat=>(i:Int)
section
variable {n:Nat}{E:List (List Int)}{d:D}
theorem G6(p:Int):(cF E p).length<=E.length:=by unfold cF;rw[NM];exact NZ (Om _ _) (by rw[Oc];exact NQ _)
end
section
variable {n:Nat}{E:List (List Int)}
theorem EU{t:List Int}:t∈c8 E↔∃i j:Nat,t=[(i:Int),(j:Int)]/\i<j/\j<E.length/\kC (E.getD i []) (E.getD j [])=true:=by
 unfold c8 tZ;rw[Oy];constructor
 ·rintro⟨i,hi,h⟩;obtain⟨j,W,rfl⟩:=NY.mp h;obtain⟨Z,X⟩:=NU.mp W;obtain⟨Y,U⟩:=O2.mp Z;exact⟨i,j,rfl,by omega,by omega,X⟩
 ·rintro⟨i,j,rfl,Z,X,Y⟩;exact⟨i,N0.mpr (by omega),NY.mpr ⟨j,NU.mpr ⟨O2.mpr (by omega),Y⟩,rfl⟩⟩
theorem JM(E:List (List Int)):(bB E.length).filter (M5 E∘tupI)=c8 E:=by
 have:=nj E;rw[RB,PK]at this;exact List.map_inj_right (f:=tupI) (λa b h=>by unfold tupI at h;exact List.map_inj_right (λx y z=>by cases z;rfl) |>.mp (D.tup.inj h)) |>.mp this
theorem Bj(Z:E.length<=7):WebOk E.length (c8 E):=WebOk.of_sub Z (by rw[<-JM];exact Pm)
theorem kE{p a b:Int}:bU p [a,b]=b_↔p=a\/p=b:=by rw[aW,N6,NW]
theorem sZ{s t:List Int}(w:WebOk n E)(hs:s∈E)(Y:t∈E):kC s t=b_↔∃p:Int,bU p s=b_/\bU p t=true:=by
 obtain⟨a,b,rfl,_,Z,_⟩:=w.el s hs;obtain⟨c,d,rfl,_,X,_⟩:=w.el t Y;rw[yf Z X,N8];constructor
 ·rintro(h|h|h|h)
  ·exact⟨a,kE.mpr (.inl rfl),kE.mpr (.inl h)⟩
  ·exact⟨a,kE.mpr (.inl rfl),kE.mpr (.inr h)⟩
  ·exact⟨b,kE.mpr (.inr rfl),kE.mpr (.inl h)⟩
  ·exact⟨b,kE.mpr (.inr rfl),kE.mpr (.inr h)⟩
 ·rintro⟨p,h3,h4⟩;rcases kE.mp h3 with e|e<;>rcases kE.mp h4 with f|f
  ·exact .inl (e ▸ f)
  ·exact .inr (.inl (e ▸ f))
  ·exact .inr (.inr (.inl (e ▸ f)))
  ·exact .inr (.inr (.inr (e ▸ f)))
theorem Ab(w:WebOk n E):E.Nodup:=w.ris.imp λ{a b} h e=>by subst e;rw[fL]at h;cases h
theorem getD_inj{i j:Nat}(w:WebOk n E)(Z:i<E.length)(Y:j<E.length)(h:E.getD i []=E.getD j []):i=j:=by rw[NS,NS,NR Z,NR Y]at h;exact(QH (Ab w)).mp h
theorem G7{α:Type}(q:List α->Bool)(l:List (List α)):l.countP q=(dq l.length).countP λi=>q (l.getD i []):=by
 have:l=(dq l.length).map λi=>l.getD i []:=by refine Qe (by simp) λi Z Y=>?_;simp[hY,Z]
 conv=>lhs;rw[this,List.countP_map]
 rfl
theorem G8{i j:Nat}(w:WebOk n E)(Y:i<E.length)(Z:j<E.length)(X:i≠j):tB (c8 E) (i:Int) (j:Int)=b_↔∃p:Int,bU p (E.getD i [])=b_/\bU p (E.getD j [])=true:=by
 rw[<-sZ w (getD_in Y) (getD_in Z)];have key:∀{a b:Nat},a<b->b<E.length->(tB (c8 E) (a:Int) (b:Int)=b_↔kC (E.getD a []) (E.getD b [])=b_):=λ{a b} h1 h2=>by
  rw[iG (by omega),N8,EU];constructor
  ·rintro⟨x,y,e,_,_,h⟩;have e1:=(OJ e).1;have e2:=(OJ (OJ e).2).1;have:a=x:=by omega
   have:b=y:=by omega
   subst_vars;exact h
  ·exact λh=>⟨a,b,rfl,h1,h2,h⟩
 rcases Q7 X with c|c
 ·exact key c Z
 ·rw[gW,key c Y,sZ w (getD_in Z) (getD_in Y),sZ w (getD_in Y) (getD_in Z)];exact⟨λ⟨p,x,y⟩=>⟨p,y,x⟩,λ⟨p,x,y⟩=>⟨p,y,x⟩⟩
theorem fH{p x:Int}:x∈cF E p↔∃i:Nat,x=(i:Int)/\i<E.length/\bU p (E.getD i [])=true:=by
 unfold cF;constructor
 ·intro h;obtain⟨i,Y,rfl⟩:=NY.mp h;obtain⟨Z,X⟩:=NU.mp Y;exact⟨i,rfl,N0.mp Z,X⟩
 ·rintro⟨i,rfl,Y,Z⟩;exact NY.mpr ⟨i,NU.mpr ⟨N0.mpr Y,Z⟩,rfl⟩
theorem yi{p:Int}{i:Nat}(Z:i<E.length):bU (i:Int) (cF E p)=bU p (E.getD i []):=by rw[O0,aW,fH];exact⟨λ⟨j,e,_,h⟩=>by rw[show i=j by omega];exact h,λh=>⟨i,rfl,Z,h⟩⟩
theorem yj(p:Int):(cF E p).Pairwise (· <·):=by unfold cF;exact Oz.mpr ((O3 Pm Qz).imp λh=>by omega)
def bD(T:List (List Int))(so:List Int):Nat:=(T.filter λc=>so.all λx=>bU x c).length
structure CrowdOk(m:Nat)(L:List (List Int))(s:List Int):Prop where
 ris:s.Pairwise (· <·)
 el:∀x∈s,0<=x/\x<m
 two:1<s.length
 tied:∀x∈s,∀y∈s,x<y->tB L x y=b_
end
theorem getD_at{z:List Int}{a:Nat}(h:a<z.length):z.getD a 0=z[a]:=by rw[NS,NR h];rfl
theorem gv{z:List Int}{a:Nat}(h:a<z.length):z.getD a 0∈z:=by rw[getD_at h];exact Pf h
theorem jD{E:List (List Int)}{a:Nat}(h:a<E.length):E.getD a []=E[a]:=by rw[NS,NR h];rfl
section
variable {z:List Int}
theorem fv{x:Int}(h:x∈z):z.idxOf x<z.length/\z.getD (z.idxOf x) 0=x:=by have Z:=QY h;exact⟨Z,by rw[getD_at Z];exact List.getElem_idxOf Z⟩
theorem wc(X:z.Pairwise (· <·)){a b:Nat}(Z:a<b)(Y:b<z.length):z.getD a 0<z.getD b 0:=by rw[getD_at Y,getD_at (by omega)];exact PB.mp X a b (by omega) Y Z
theorem Ac(X:z.Pairwise (· <·)){x y:Int}(Y:x∈z)(W:y∈z)(h:x<y):z.idxOf x<z.idxOf y:=by
 obtain⟨U,x2⟩:=fv Y;obtain⟨T,Z⟩:=fv W;rcases Rk (z.idxOf x) (z.idxOf y)with c|c|c
 ·exact c
 ·rw[c,Z]at x2;omega
 ·have:=wc X c U;rw[x2,Z]at this;omega
theorem wd(Z:z.Pairwise (· <·)){a:Nat}(h:a<z.length):z.idxOf (z.getD a 0)=a:=by
 have hm:=gv h;obtain⟨Y,x2⟩:=fv hm;rcases Rk (z.idxOf (z.getD a 0)) a with c|c|c
 ·have:=wc Z c h;omega
 ·exact c
 ·have:=wc Z c Y;omega
end
theorem EV{a b c d:Int}:HT.lexLt [a,b] [c,d]=b_↔a<c\/(a=c/\b<d):=by
 rw[HT.lexLt_cons];by_cases e:a=c
 ·rw[if_pos e,HT.lexLt_cons];by_cases f:b=d
  ·rw[if_pos f];exact⟨(λh=>by cases h),λh=>by omega⟩
  ·rw[if_neg f,N8];exact⟨λh=>.inr ⟨e,h⟩,λh=>by omega⟩
 ·rw[if_neg e,N8];exact⟨λh=>.inl h,λh=>by omega⟩
def EW(z t:List Int):Bool:=bU (t.getD 0 0) z && bU (t.getD 1 0) z
def Lx(z t:List Int):List Int:=[((z.idxOf (t.getD 0 0):Nat):Int),((z.idxOf (t.getD 1 0):Nat):Int)]
def kF(L:List (List Int))(z:List Int):List (List Int):=(L.filter (EW z)).map (Lx z)
section
variable {n:Nat}{E:List (List Int)}{z:List Int}
end
section
variable {n:Nat}{E E':List (List Int)}{z:List Int}
theorem Cy{i j:Nat}(h:i<j):(z.take j).getD i 0=z.getD i 0:=by rw[NS,NS,P2,if_pos h]
theorem Bk{j:Nat}(h:Part n E E' z)(Y:j<z.length):yg E E' (z.take j) (z.getD j 0)=true:=by
 unfold yg;have X:(z.take j).length=j:=by rw[OO];omega
 rw[OA,X,Of];constructor
 ·cases q:bU (z.getD j 0) (z.take j)with
  |false=>rfl
  |true=>
   obtain⟨i,Z,e⟩:=Ph.mp (aW.mp q);rw[List.getElem_take,getD_at Y]at e;have:=(QH h.nd).mp e;omega
 ·intro i Z;have Z:=N0.mp Z;unfold Lu;rw[X,Cy Z,h.ok j Y i Z];exact Rv _
theorem EX(h:Part n E E' z):M3 E E' z=true:=Of.mpr λj Z=>Bk h (N0.mp Z)
theorem EY{b:Nat}(h:Part n E E' z)(Z:b<z.length):z.take (b+1)∈ext n E E' (z.take b):=by
 have he:=h.el _ (gv Z);have c:(((z.getD b 0).toNat:Nat):Int)=z.getD b 0:=by omega
 unfold ext;refine NY.mpr ⟨(z.getD b 0).toNat,NU.mpr ⟨N0.mpr (by omega),by rw[c];exact Bk h Z⟩,?_⟩;rw[c,List.take_succ,getD_at Z,NR Z];rfl
theorem yk(h:Part n E E' z):∀(k b:Nat) (rs:List (List Int)),z.take b∈rs->b+k<=z.length->z.take (b+k)∈qf n E E' k rs
 |0,b,rs,hr,_=>hr
 |k+1,b,rs,hr,hb=>by
  have:=yk h k (b+1) (rs.flatMap (ext n E E')) (Oy.mpr ⟨_,hr,EY h (by omega)⟩) (by omega);rw[show b+(k+1)=b+1+k by omega];exact this
theorem EZ(h:Part n E E' z)(Z:z.length=n):z∈qf n E E' n [[]]:=by have:=yk h n 0 [[]] (by rw[List.take_zero];exact .head _) (by omega);rw[R3, <-Z,List.take_length]at this;rw[<-Z];exact this
theorem Cz(h:Part n E E' z)(Y:z.length=n):∃r,(qf n E E' n [[]]).head? =ar r/\M4 n n E E' (tupI r)=true:=by
 cases q:qf n E E' n [[]]with
 |nil=>have:=EZ h Y;rw[q]at this;cases this
 |cons r rs=>
  refine⟨r,rfl,?_⟩;obtain⟨P,l⟩:=sW (n:=n) (E:=E) (E':=E') n 0 [[]] (λs hs=>by rw[NW.mp hs];exact⟨Part.nil,rfl⟩) r (by rw[q];exact .head _);rw[R3]at l;show(decide (n=n) && (decide ((r.map D.int).length=n) && ((r.map D.int).all (gu n) && match intsOf (r.map D.int)with|some z=>M3 E E' z|none=>c_)))=b_;rw[fc,NM,N1 rfl,N1 l,PP,PP,OA];refine⟨Of.mpr λd hd=>?_,EX P⟩;obtain⟨x,Z,rfl⟩:=NY.mp hd;have:=P.el x Z;show(decide (0<=x) && decide (x<n))=b_;rw[N1 this.1,N1 this.2];rfl
end
section
variable {n:Nat}{E:List (List Int)}{zs:List Int}
theorem nq(w:WebOk n E):TiesOk n E:=⟨w.el,Ab w,w.few⟩
theorem Ad{t:List Int}{q:Int}(w:WebOk n E)(Z:t∈E):bU q (qT zs t)=b_↔∃p,bU p t=b_/\q=zs.getD p.toNat 0:=by
 obtain⟨a,b,rfl,_⟩:=w.el t Z;unfold qT;rw[aW,(sortI_perm _).mem_iff];simp only[y3,List.getD_cons_succ,eu,ee,or_false];constructor
 ·rintro(h|h)
  ·exact⟨a,kE.mpr (.inl rfl),h⟩
  ·exact⟨b,kE.mpr (.inr rfl),h⟩
 ·rintro⟨p,h1,h2⟩;rcases kE.mp h1 with rfl|rfl
  ·exact .inl h2
  ·exact .inr h2
end
section
variable {α:Type}{l:List α}{mk:α->D}{mi:aE->M Iter}{g:lR}{t:fe}{m:TM}{ρ:aE}{js:List (Option Nat)}
theorem ym{e:TM}{f:α->Bool}(h:e ρ=aC (.fz (l.map λa=>D.bl (f a)))):bX jI e ρ=aC (.bl (l.all f)):=by
 have e1:(l.map λa=>D.bl (f a))=(l.map f).map D.bl:=by rw[Od];rfl
 rw[e1]at h;refine(cU h).trans (vV.trans ?_);rw[Q4];rfl
theorem Ae(f:α->Bool)(l:List α):df 0 (l.map λa=>D.bl (f a))=true:=by have:=sJ (l.map f);rw[Od]at this;exact this
theorem gw(f:α->Bool)(R:aE->Prop)(P:mi ρ=aC ⟨l.map mk,.none⟩)(N:l.length<=lim)(S:R (iK js ρ))(X:∀a∈l,∀ ρ,R ρ->∃Z,g (mk a) ρ=aC Z/\R Z/\t Z=aC b_/\m Z=aC (.bl (f a))):
  bX jI (aL (a7 mi g t m js)) ρ=aC (.bl (l.all f)):=by
 have h:=kD (f:=λa=>D.bl (f a)) R (λ_=>b_) P N S (λa T ρ Y=>by obtain⟨Z,U,O,W,Q⟩:=X a T ρ Y;exact⟨Z,U,O,W,λ_=>Q⟩) (by rw[bO];exact Ae f l)
 rw[bO]at h;exact ym h
theorem qi(f:α->Bool)(R:aE->Prop)(P:mi ρ=aC ⟨l.map mk,.none⟩)(N:l.length<=lim)(S:R (iK js ρ))(X:∀a∈l,∀ ρ,R ρ->∃Z,g (mk a) ρ=aC Z/\R Z/\t Z=aC b_/\m Z=aC (.bl (f a))):
  bX jI (aL (yQ (a7 mi g t m js))) ρ=aC (.bl (l.all f)):=by
 have h:=ER (f:=λa=>D.bl (f a)) R (λ_=>b_) P N S (λa T ρ Y=>by obtain⟨Z,U,O,W,Q⟩:=X a T ρ Y;exact⟨Z,U,O,W,λ_=>Q⟩) (by rw[bO];exact Ae f l)
 rw[bO]at h;exact ym h
theorem Bl{d d1:D}(Z:α->α->Bool)(hs:aL (DO (mV 0) (oS (mK (.int 1))) oN) [ar d]=aC d1)(W:xF [d,d1]=aC ⟨(l.zip (l.drop 1)).map λp=>D.tup [mk p.1,mk p.2],.none⟩)(X:∀a b,xq (mk a) (mk b)=aC (.bl (Z a b)))(T:l.length<=1000):
  cq [d]=aC (.bl ((l.zip (l.drop 1)).all λp=>Z p.1 p.2)):=by
 refine cQ (o:=.ret (.bl ((l.zip (l.drop 1)).all λp=>Z p.1 p.2))) (bS (gw (α:=α×α) (l:=l.zip (l.drop 1)) (mk:=λp=>D.tup [mk p.1,mk p.2]) (λp=>Z p.1 p.2) (λρ=>∃x y,ρ=[x,y]) ?_ ?_ ⟨none,none,rfl⟩ λp U ρ Y=>?_)) rfl
 ·show(ae (mV 0) (ae (aL (DO (mV 0) (oS (mK (.int 1))) oN)) aj) [ar d]>>=xF)=_;rw[bq (x:=d) rfl (bq hs (es:=aj) rfl),aq];exact W
 ·rw[List.length_zip];unfold lim;omega
 ·obtain⟨x,y,rfl⟩:=Y;exact⟨[ar (mk p.1),ar (mk p.2)],rfl,⟨_,_,rfl⟩,rfl,(bo (x:=mk p.1) (y:=mk p.2) rfl rfl).trans (X _ _)⟩
theorem Af{R:α->α->Prop}:∀{l:List α},l.Pairwise R->∀p∈l.zip (l.drop 1),R p.1 p.2
 |[],_,p,hp=>by cases hp
 |[_],_,p,hp=>by cases hp
 |a::b::r,h,p,hp=>by
  obtain⟨Y,Z⟩:=Oa.mp h;rcases N6.mp (show p∈(a,b)::(b::r).zip r from hp)with rfl|hp
  ·exact Y b (.head _)
  ·exact Af Z p hp
end
section
variable {n:Nat}{E:List (List Int)}{z:List Int}{T:List (List Int)}
theorem E1(Z:z.Pairwise (· <·))(Y:z.length<=1000):cq [tupI z]=aC (.bl b_):=by
 have h:=Bl (l:=z) (mk:=D.int) (d:=tupI z) (d1:=tupI (z.drop 1)) (λa b=>decide (a<b)) (by
  refine d7 (?_ :bw (S3.cutD (z.map D.int) (ar 1) none)=_);rw[Jx, <-List.map_drop];unfold bw;exact if_pos (by rw[NM,Qa];unfold lim;omega)) (by
  show(aC (⟨((z.map D.int).zip ((z.drop 1).map D.int)).map (λp=>D.tup [p.1,p.2]),.none⟩:Iter):M Iter)=_;rw[List.zip_map,Od];rfl) (λa b=>rfl) Y
 rw[h,Of.mpr λp X=>N1 (Af Z p X)]
theorem CA(Y:T.Pairwise λa b=>HT.lexLt a b=b_)(Z:T.length<=1000):cq [.fz (T.map tupI)]=aC (.bl b_):=by
 have h:=Bl (l:=T) (mk:=tupI) (d:=.fz (T.map tupI)) (d1:=.fz ((T.drop 1).map tupI)) (λa b=>HT.lexLt a b) (by
  show iF (bQ (S3.cutD (T.map tupI) (ar 1) none))=_;rw[Jx, <-List.map_drop];exact cw (bt _) (by rw[NM,Qa];unfold lim;omega)) (by
  show(aC (⟨((T.map tupI).zip ((T.drop 1).map tupI)).map (λp=>D.tup [p.1,p.2]),.none⟩:Iter):M Iter)=_;rw[List.zip_map,Od];rfl) (λa b=>by
  show(match intsOf (a.map D.int),intsOf (b.map D.int)with|some ns,ar ms=>(aC (.bl (HT.lexLt ns ms)):M D)|_,_=>M.fail)=_;rw[fc,fc]) Z
 rw[h,Of.mpr λp X=>Af Y p X]
theorem uV{m:Nat}(W:z.Pairwise (· <·))(X:∀x∈z,0<=x/\x<m)(U:z.length<=1000):d9 [.int m,tupI z]=aC (.bl b_):=by
 refine cQ (o:=.ret (.bl b_)) (bS (and_eq (b:=b_) rfl (λ_=>and_eq (b:=b_) ?_ (λ_=>d7 ((cz rfl).trans (E1 W U))) (λh=>by cases h)) (λh=>by cases h))) rfl;have h:=gw (l:=z) (mk:=D.int) (mi:=bP (mV 1)) (g:=gN 0) (t:=jt) (m:=ju) (js:=[none,ar 0]) (ρ:=[ar (.int m),ar (tupI z)]) (λx=>gu m (.int x)) (λρ=>∃x,ρ=[x,ar (.int m)]) rfl (by unfold lim;omega) ⟨none,rfl⟩ λx Y ρ Z=>by obtain⟨y,rfl⟩:=Z;exact⟨[ar (.int x),ar (.int m)],rfl,⟨_,rfl⟩,rfl,d7 ((call2 rfl rfl).trans (vY rfl))⟩
 refine h.trans ?_;rw[Of.mpr λx Y=>?_];have:=X x Y;show(decide (0<=x) && decide (x<m))=b_;rw[N1 this.1,N1 this.2];rfl
theorem G9{x:Int}(W:z.length<=1000)(h:∀y∈z,tB E y x=b_):gm [aw n E,tupI z,.int x]=aC (.bl b_):=by
 have Y:=gw (l:=z) (mk:=D.int) (mi:=bP (mV 1)) (g:=gN 0) (t:=nQ) (m:=nR) (js:=[none,ar 0,ar 2]) (ρ:=[ar (aw n E),ar (tupI z),ar (.int x)]) (λy=>tB E y x) (λρ=>∃y,ρ=[y,ar (aw n E),ar (.int x)]) rfl (by unfold lim;omega) ⟨none,rfl⟩ λy X ρ Z=>by obtain⟨u,rfl⟩:=Z;exact⟨[ar (.int y),ar (aw n E),ar (.int x)],rfl,⟨_,rfl⟩,rfl,d7 ((nF rfl rfl rfl).trans sV)⟩
 refine cQ (o:=.ret (.bl b_)) (bS (Y.trans ?_)) rfl;rw[Of.mpr h]
theorem Ha(Q:z.length<=100)(h:CrowdOk n E z):gS [aw n E,tupI z]=aC (.bl b_):=by
 have U:eQ (bV (aL (ak d9 (ae (aU b9 (mV 0) (mK (.int 0))) (ae (mV 1) aj))))) [ar (aw n E),ar (tupI z)]=aC false:=not_eq (e9 (d7 ((call2 (x:=.int n) (y:=tupI z) rfl rfl).trans (uV h.ris h.el (by omega)))));have R:d5 xq (bX dj (mV 1)) (mK (.int 2)) [ar (aw n E),ar (tupI z)]=aC false:=by refine bA (x:=.int z.length) (y:=.int 2) ((nk (us:=z.map D.int) rfl).trans (by rw[NM])) rfl ?_;show aC (D.bl (decide ((z.length:Int)<2)))=_;rw[Ot (by have:=h.two;omega)]
 have W:=gw (α:=Nat) (l:=dq z.length) (mk:=λi:Nat=>.tup [.int (i:Int),.int (z.getD i 0)]) (mi:=uG (mV 1)) (g:=dy 2 (aY (gN 0) (aY (gN 1) dE))) (t:=gH) (m:=gI) (js:=[none,none,ar 0,ar 1]) (ρ:=[ar (aw n E),ar (tupI z)]) (λ_=>b_) (λρ=>∃x y,ρ=[x,y,ar (aw n E),ar (tupI z)]) (by rw[<-Cw];rfl) (by rw[Oc];unfold lim;omega) ⟨none,none,rfl⟩ λi Z ρ Y=>by obtain⟨x,y,rfl⟩:=Y;have Z:=N0.mp Z;refine⟨[ar (.int i),ar (.int (z.getD i 0)),ar (aw n E),ar (tupI z)],rfl,⟨_,_,rfl⟩,rfl,d7 ((nF rfl (G5 (z:=z) (i:=i) rfl rfl Q) rfl).trans (G9 (by rw[OO];omega) λy S=>?_))⟩;obtain⟨j,X,rfl⟩:=Ph.mp S;rw[List.getElem_take];rw[OO]at X;refine h.tied _ (Pf _) _ (gv Z) ?_;have:=wc h.ris (a:=j) (b:=i) (by omega) Z;rw[getD_at (by omega)]at this;exact this
 refine cQ (o:=.ret (.bl b_)) ((aI ((b7 (uU U λ_=>R)).trans (if_neg (by decide)))).trans (bS (W.trans ?_))) rfl;rw[Of.mpr λ_ _=>rfl]
theorem we(Z:n<=7)(w:WebOk n E):cK [aw n E]=aC .non:=by
 have:bZ [aw n E,.int 7]=aC .non:=by rw[sX (by omega) w,if_neg (by omega)]
 exact eZ (hU (d7 ((call2 rfl rfl).trans this))) rfl
theorem td{s:List Int}(X:T.length<=1000)(hs:s.length<=1000):aX [.fz (T.map tupI),tupI s]=aC (.int (bD T s)):=by
 have Y:=kD (l:=T) (mk:=tupI) (f:=tupI) (mi:=bP (mV 0)) (g:=gN 0) (t:=fW) (m:=fX) (js:=[none,ar 1]) (ρ:=[ar (.fz (T.map tupI)),ar (tupI s)]) (λρ=>∃x,ρ=[x,ar (tupI s)]) (λc=>s.all λx=>bU x c) rfl (by unfold lim;omega) ⟨none,rfl⟩ (λc Y ρ Z=>by
  obtain⟨y,rfl⟩:=Z;refine⟨[ar (tupI c),ar (tupI s)],rfl,⟨_,rfl⟩,e9 ?_,λ_=>rfl⟩;exact gw (l:=s) (mk:=D.int) (mi:=bP (mV 1)) (g:=gN 0) (t:=fU) (m:=fV) (js:=[none,ar 0]) (ρ:=[ar (tupI c),ar (tupI s)]) (λx=>bU x c) (λρ=>∃x,ρ=[x,ar (tupI c)]) rfl (by unfold lim;omega) ⟨none,rfl⟩ λx W ρ Z=>by obtain⟨y,rfl⟩:=Z;exact⟨[ar (.int x),ar (tupI c)],rfl,⟨_,rfl⟩,rfl,(bo (x:=.int x) (y:=tupI c) rfl rfl).trans qS⟩) (bt _)
 refine cQ (o:=.ret (.int (bD T s))) (bS ((sY Y).trans ?_)) rfl;rw[NM];rfl
theorem Ly(W:T.length<=1000)(Y:T.Pairwise λa b=>HT.lexLt a b=b_)(U:∀s∈T,s.length<=100)(h:∀s∈T,CrowdOk n E s):gn [aw n E,.fz (T.map tupI)]=aC (.bl b_):=by
 refine cQ (o:=.ret (.bl b_)) (bS (and_eq (b:=b_) rfl (λ_=>and_eq (b:=b_) ?_ (λ_=>d7 ((cz rfl).trans (CA Y W))) (λh=>by cases h)) (λh=>by cases h))) rfl;have X:=gw (l:=T) (mk:=tupI) (mi:=bP (mV 1)) (g:=gN 0) (t:=ir) (m:=iu) (js:=[none,ar 0]) (ρ:=[ar (aw n E),ar (.fz (T.map tupI))]) (λ_=>b_) (λρ=>∃x,ρ=[x,ar (aw n E)]) rfl (by unfold lim;omega) ⟨none,rfl⟩ λs hs ρ Z=>by obtain⟨y,rfl⟩:=Z;exact⟨[ar (tupI s),ar (aw n E)],rfl,⟨_,rfl⟩,rfl,d7 ((call2 rfl rfl).trans (Ha (U s hs) (h s hs)))⟩
 refine X.trans ?_;rw[Of.mpr λ_ _=>rfl]
theorem CB(S:n<=7)(w:WebOk n E)(X:T.length<=1000)(P:T.Pairwise λa b=>HT.lexLt a b=b_)(R:∀s∈T,s.length<=100)(h:∀s∈T,CrowdOk n E s)(W:∀t∈E,bD T t=1)(U:∀i,i<n->bD T [(i:Int)]<=2):eA [aw n E,.fz (T.map tupI)]=aC (.bl b_):=by
 have hf:=w.few;have c1:=qi (l:=E) (mk:=tupI) (mi:=bP (mV 3)) (g:=gN 0) (t:=iw) (m:=iy) (js:=[none,ar 1]) (ρ:=[ar (aw n E),ar (.fz (T.map tupI)),ar (.int n),ar (.tup (E.map tupI))]) (λ_=>b_) (λρ=>∃x,ρ=[x,ar (.fz (T.map tupI))]) rfl (by unfold lim;omega) ⟨none,rfl⟩ λt Y ρ Z=>by obtain⟨y,rfl⟩:=Z;refine⟨[ar (tupI t),ar (.fz (T.map tupI))],rfl,⟨_,rfl⟩,rfl,(bo (d7 ((call2 rfl rfl).trans (td X (by obtain⟨a,b,rfl,_⟩:=w.el t Y;show 2<=1000;decide)))) (y:=.int 1) rfl).trans ?_⟩;rw[W t Y,CQ];rfl
 have N:=qi (α:=Nat) (l:=dq n) (mk:=λi:Nat=>D.int (i:Int)) (mi:=n5 (mV 2)) (g:=gN 0) (t:=iz) (m:=iA) (js:=[none,ar 1]) (ρ:=[ar (aw n E),ar (.fz (T.map tupI)),ar (.int n),ar (.tup (E.map tupI))]) (λ_=>b_) (λρ=>∃x,ρ=[x,ar (.fz (T.map tupI))]) (v9 rfl (by omega)) (by rw[Oc];unfold lim;omega) ⟨none,rfl⟩ λi L ρ Z=>by
  obtain⟨y,rfl⟩:=Z;have Y:dz (ae (mV 0) aj) [ar (.int i),ar (.fz (T.map tupI))]=aC (tupI [(i:Int)]):=by show(ae _ _ _>>=bw)=_;rw[bq (x:=.int i) rfl (es:=aj) rfl,aq];unfold bw;exact if_pos (by show 1<=lim;unfold lim;omega)
  refine⟨[ar (.int i),ar (.fz (T.map tupI))],rfl,⟨_,rfl⟩,rfl,(bo (d7 ((call2 rfl Y).trans (td X (by show 1<=1000;decide)))) (y:=.int 2) rfl).trans ?_⟩;show aC (D.bl (decide ((bD T [(i:Int)]:Int)<=2)))=_;rw[N1 (by have:=U i (N0.mp L);omega)]
 have O:eQ (bV (aL (ak gn (ae (mV 0) (ae (mV 1) aj))))) [ar (aw n E),ar (.fz (T.map tupI)),none,none]=aC false:=not_eq (e9 (d7 ((call2 rfl rfl).trans (Ly X P R h))));have Q:=not_eq (e9 (c1.trans (by rw[Of.mpr λ_ _=>rfl])));refine eZ (o:=.ret (.bl b_)) ((aI (hU (d7 ((cz rfl).trans (we S w))))).trans ((aI ((b7 O).trans (if_neg (by decide)))).trans ((aI (ρ':=[ar (aw n E),ar (.fz (T.map tupI)),ar (.int n),ar (.tup (E.map tupI))]) rfl).trans ((aI ((b7 Q).trans (if_neg (by decide)))).trans (bS (N.trans ?_)))))) rfl;rw[Of.mpr λ_ _=>rfl]
end
theorem yo(x:Int):∀z:List Int,x∈z->(z.map mj).findIdx? (λy=>eo y (.int x))=ar (z.idxOf x)
 |[],h=>by cases h
 | r::rs,h=>by
  have e:eo (.int r) (.int x)=decide (r=x):=by simp only[eo];rfl
  rw[On,List.findIdx?_cons,e,List.idxOf_cons];by_cases hr:r=x
  ·rw[if_pos (N1 hr),beq_iff_eq.mpr hr];rfl
  ·rw[if_neg (by rw[N8];exact hr),Qq hr,yo x rs ((N6.mp h).resolve_left λz=>hr z.symm)];rfl
theorem uW{x:Int}{z:List Int}(h:x∈z):nP (tupI z) [.int x]=aC (.int (z.idxOf x)):=by funext S;unfold nP;dsimp only;rw[jY,lD];unfold iE;dsimp only;rw[yo x z h];rfl
section
variable {n:Nat}{E:List (List Int)}{z:List Int}
theorem Bm{e1 e2:TM}{ρ:aE}{x y:Int}(Z:e1 ρ=aC (.int x))(Y:e2 ρ=aC (.int y)):dz (ae e1 (ae e2 aj)) ρ=aC (tupI [x,y]):=by show(ae _ _ _>>=bw)=_;rw[bq Z (bq Y (es:=aj) rfl),aq];unfold bw;exact if_pos o6
theorem Lz{e1 e2:TM}{ρ:aE}{m:Nat}{T:List (List Int)}(Z:e1 ρ=aC (.int m))(Y:e2 ρ=aC (.tup (T.map tupI))):dz (ae e1 (ae e2 aj)) ρ=aC (aw m T):=by show(ae _ _ _>>=bw)=_;rw[bq Z (bq Y (es:=aj) rfl),aq];unfold bw;exact if_pos o6
theorem E2(T:n<=14)(w:WebOk n E)(P:z.Pairwise (· <·))(S:∀x∈z,0<=x/\x<n)(O:z.length<=100):mB [aw n E,tupI z]=aC (aw z.length (kF E z)):=by
 have hf:=w.few;have U:eQ (bV (aL (ak d9 (ae (mV 2) (ae (mV 1) aj))))) [ar (aw n E),ar (tupI z),ar (.int n),ar (.tup (E.map tupI)),none]=aC false:=not_eq (e9 (d7 ((call2 rfl rfl).trans (uV P S (by omega)))));have c1:=kD (l:=E) (mk:=tupI) (f:=tupI) (mi:=bP (mV 3)) (g:=dy 2 (aY (gN 0) (aY (gN 1) dE))) (t:=jU) (m:=jV) (js:=[none,none,ar 1]) (ρ:=[ar (aw n E),ar (tupI z),ar (.int n),ar (.tup (E.map tupI)),none]) (λρ=>∃x y,ρ=[x,y,ar (tupI z)]) (EW z) rfl (by unfold lim;omega) ⟨none,none,rfl⟩ (λt Y ρ Z=>by
  obtain⟨x,y,rfl⟩:=Z;obtain⟨a,b,rfl,_⟩:=w.el t Y;refine⟨[ar (.int a),ar (.int b),ar (tupI z)],rfl,⟨_,_,rfl⟩,?_,λ_=>Bm rfl rfl⟩;show(d5 inD (mV 0) (mV 2) _>>=_)=_;rw[bA (x:=.int a) (y:=tupI z) rfl rfl qS,aq];unfold EW;cases q:bU a z with
  |true=>
   rw[if_pos rfl];show _=aC (bU a z && bU b z);rw[q,PP];exact bA (x:=.int b) (y:=tupI z) rfl rfl qS
  |false=>
   rw[if_neg (by decide)];show _=aC (bU a z && bU b z);rw[q];rfl) (bt _)
 have s1:Jp (cb 4 (aL (a7 (bP (mV 3)) (dy 2 (aY (gN 0) (aY (gN 1) dE))) jU jV [none,none,ar 1]))) [ar (aw n E),ar (tupI z),ar (.int n),ar (.tup (E.map tupI)),none]=aC (.nx [ar (aw n E),ar (tupI z),ar (.int n),ar (.tup (E.map tupI)),ar (.fz ((E.filter (EW z)).map tupI))]):=by unfold Jp;rw[cZ c1];rfl
 have X:=ER (l:=E.filter (EW z)) (mk:=tupI) (f:=λt=>tupI (Lx z t)) (mi:=bP (mV 4)) (g:=dy 2 (aY (gN 0) (aY (gN 1) dE))) (t:=jW) (m:=jX) (js:=[none,none,ar 1]) (ρ:=[ar (aw n E),ar (tupI z),ar (.int n),ar (.tup (E.map tupI)),ar (.fz ((E.filter (EW z)).map tupI))]) (λρ=>∃x y,ρ=[x,y,ar (tupI z)]) (λ_=>b_) rfl (NZ (Om _ _) (by unfold lim;omega)) ⟨none,none,rfl⟩ (λt Y ρ Z=>by
  obtain⟨x,y,rfl⟩:=Z;obtain⟨t1,t2⟩:=NU.mp Y;obtain⟨a,b,rfl,_⟩:=w.el t t1;unfold EW at t2;rw[OA]at t2;have R:a∈z:=aW.mp t2.1;have W:b∈z:=aW.mp t2.2;exact⟨[ar (.int a),ar (.int b),ar (tupI z)],rfl,⟨_,_,rfl⟩,rfl,λ_=>Bm ((ET (xs:=z.map D.int) (y:=.int a) rfl rfl).trans (uW R)) ((ET (xs:=z.map D.int) (y:=.int b) rfl rfl).trans (uW W))⟩) (by
  rw[bO];have:=bt ((E.filter (EW z)).map (Lx z));rw[Od]at this;exact this)
 rw[bO]at X;have Q:(E.filter (EW z)).length<=21:=NZ (Om _ _) hf;have e2:bX bY (aL (yQ (a7 (bP (mV 4)) (dy 2 (aY (gN 0) (aY (gN 1) dE))) jW jX [none,none,ar 1]))) [ar (aw n E),ar (tupI z),ar (.int n),ar (.tup (E.map tupI)),ar (.fz ((E.filter (EW z)).map tupI))]=aC (.tup ((kF E z).map tupI)):=by refine(cU X).trans ((jC (by rw[NM];unfold lim;omega)).trans ?_);unfold kF;rw[Od];rfl
 exact eZ (o:=.ret (aw z.length (kF E z))) ((aI (hU (d7 ((cz rfl).trans (ni T w))))).trans ((aI (ρ':=[ar (aw n E),ar (tupI z),ar (.int n),ar (.tup (E.map tupI)),none]) rfl).trans ((aI ((b7 U).trans (if_neg (by decide)))).trans ((aI s1).trans (bS (Lz ((nk (us:=z.map D.int) rfl).trans (by rw[NM])) e2)))))) rfl
end
theorem qj:∀rs:List (List Int),ly (rs.map iE) (rs.map iE)=b_
 |[]=>by simp[ly]
 | r::rs=>by
  have e:eo (iE r) (iE r)=true:=by unfold iE eo;rw[mL,N1 rfl]
  rw[On];unfold ly;rw[e,qj rs];rfl
theorem tj{Z:List (List Int)}(h:∀r∈Z,0<r.length)(X:Z.length<64):kx (Z.map tupI)=bQ ((bc Z).map tupI):=by
 cases Z with
 |nil=>rfl
 | cons r Z=>
  have Y:two (r::Z)=true:=Of.mpr λx W=>by have:=h x W;rw[bne_iff_ne];omega
  show(match rowsOf ((r::Z).map tupI)with|some Z=>sj Z|none=>M.fail)=_;rw[sP];exact if_pos ⟨X,Y⟩
theorem Dr.subI:∀{L:List Int} {ys:List D},Dr (λd y=>y=d) (L.map D.int) ys->∃z:List Int,ys=z.map D.int/\z.Sublist L
 |[],_,h=>by cases h;exact⟨[],rfl,.slnil⟩
 | x::L,ys,h=>by
  cases h with
  |skip h=>
   obtain⟨z,rfl,s⟩:=Dr.subI h;exact⟨z,rfl,s.cons _⟩
  |put p h=>
   obtain⟨z,rfl,s⟩:=Dr.subI h;exact⟨x::z,by rw[p];rfl,s.cons₂ _⟩
section
variable {n:Nat}{E:List (List Int)}
def CC(E:List (List Int))(r:List Int)(p:Int):Bool:=r.all λy=>tB E y p
structure Cr(n:Nat)(E:List (List Int))(r:List Int):Prop where
 ris:r.Pairwise λa b=>a<b
 tie:r.Pairwise λa b=>tB E a b=b_
 lo:∀x∈r,0<=x
 hi:∀x∈r,x<n
theorem Ag{r:List Int}{p:Int}:CC E r p=b_↔∀y∈r,tB E y p=true:=Of
theorem Cr.snoc{r:List Int}{p:Nat}(h:Cr p E r)(W:CC E r p=b_)(U:p<n):Cr n E (r++[(p:Int)]):=by
 refine⟨OD.mpr ⟨h.ris,OH ..,λa X b Y=>?_⟩,OD.mpr ⟨h.tie,OH ..,λa X b Y=>?_⟩,λx Z=>?_,λx Z=>?_⟩
 ·rw[NW.mp Y];exact h.hi a X
 ·rw[NW.mp Y];exact Ag.mp W a X
 ·rcases OB.mp Z with Z|Z
  ·exact h.lo x Z
  ·rw[NW.mp Z];omega
 ·rcases OB.mp Z with Z|Z
  ·have:=h.hi x Z;omega
  ·rw[NW.mp Z];omega
theorem Cr.mono{m:Nat}{r:List Int}(h:Cr m E r)(Y:m<=n):Cr n E r:=⟨h.ris,h.tie,h.lo,λx Z=>by have:=h.hi x Z;omega⟩
def lC(E:List (List Int)):Nat->List (List Int)
 |0=>[[]]
 |p+1=>lC E p++((lC E p).filter λr=>CC E r p).map λr=>r++[(p:Int)]
def NI(n:Nat)(E:List (List Int)):List (List Int):=(lC E n).filter λr=>decide (1<r.length)
theorem tm:∀{p:Nat} {r:List Int},r∈lC E p↔Cr p E r
 | 0,r=>by
  show r∈[[]]↔_;rw[NW];constructor
  ·rintro rfl;exact⟨.nil,.nil,(λx X=>by cases X),(λx X=>by cases X)⟩
  ·intro h;cases r with
   |nil=>rfl
   |cons x r=>have:=h.lo x (.head _);have:=h.hi x (.head _);omega
 | p +1,r=>by
  show r∈lC E p++_↔_;rw[OB,tm,NY];constructor
  ·rintro(h|⟨q,hq,rfl⟩)
   ·exact h.mono (by omega)
   ·obtain⟨U,R⟩:=NU.mp hq;exact(tm.mp U).snoc R (by omega)
  ·intro h;by_cases hr:(p:Int)∈r
   ·refine .inr ?_;have W:r≠[]:=List.ne_nil_of_mem hr;have e:=List.dropLast_concat_getLast W;have P:r.getLast W=p:=by
     have hm:=List.getLast_mem W;have U:=h.hi _ hm;obtain⟨j,S,T⟩:=Ph.mp hr;by_cases c:j=r.length - 1
     ·rw[Rn, <-T];congr 1;exact c.symm
     ·have:=PB.mp h.ris j (r.length - 1) S (by omega) (by omega);rw[T, <-Rn W]at this;omega
    rw[P]at e;have Z:=h.ris;have Y:=h.tie;rw[<-e,OD]at Z Y;refine⟨r.dropLast,NU.mpr ⟨tm.mpr ⟨Z.1,Y.1,λx X=>h.lo x (List.dropLast_subset _ X),λx X=>Z.2.2 x X p (.head _)⟩,Ag.mpr λy Q=>Y.2.2 y Q p (.head _)⟩,e⟩
   ·refine .inl ⟨h.ris,h.tie,h.lo,λx X=>?_⟩;have U:=h.hi x X;have:x≠p:=λz=>hr (z ▸ X);omega
theorem E3:∀p,(lC E p).Nodup
 |0=>by show[[]].Nodup;exact ON.mpr ⟨by simp,.nil⟩
 | p+1=>by
  show(lC E p++_).Nodup;refine QE.mpr ⟨E3 p,?_,λa X b Y e=>?_⟩
  ·exact((E3 p).filter _).map (λr=>r++[(p:Int)]) λa b Z e=>Z (List.append_cancel_right e)
  ·subst e;obtain⟨q,W,rfl⟩:=NY.mp Y;have:=(tm.mp X).hi p (N9 _ (.head _));omega
def wg(E:List (List Int))(n:Nat):Nat->List Int->Nat->List (List Int)
 |0,_,_=>[]
 |f+1,st,l=>(if 2<=st.length then [st]else [])++(hO (l+1) (n - (l+1))).flatMap λp:Nat=>if CC E st p=b_ then wg E n f (st++[(p:Int)]) p else []
def LA(n:Nat)(E:List (List Int)):List (List Int):=(dq n).flatMap λp:Nat=>wg E n 9 [(p:Int)] p
theorem nU:∀{f:Nat} {st:List Int} {l:Nat} {r:List Int},r∈wg E n f st l->∃q,r=st++q
 |0,_,_,_,h=>by cases h
 | f+1,st,l,r,h=>by
  rcases OB.mp h with h|h
  ·split at h
   ·exact⟨[],by rw[NW.mp h,Oi]⟩
   ·cases h
  ·obtain⟨p,Z,h⟩:=Oy.mp h;split at h
   ·obtain⟨q,e⟩:=nU h;exact⟨[(p:Int)]++q,by rw[e,OF]⟩
   ·cases h
theorem j6:∀{f:Nat} {st:List Int} {l:Nat} {r:List Int},n<l+f->Cr n E (st++[(l:Int)])->(r∈wg E n f (st++[(l:Int)]) l↔Cr n E r/\2<=r.length/\∃q,r=st++[(l:Int)]++q)
 |0,st,l,r,hf,h=>by
  have:=h.hi l (N9 _ (.head _));omega
 | f +1,st,l,r,hf,h=>by
  constructor
  ·intro Z;obtain⟨q,e⟩:=nU Z;rcases OB.mp Z with Z|Z
   ·split at Z
    ·next c=>rw[NW.mp Z];exact⟨h,c,[],(Oi _).symm⟩
    ·cases Z
   ·obtain⟨p,S,Z⟩:=Oy.mp Z;have S:=O2.mp S;split at Z
    ·next c=>
     have W:Cr n E (st++[(l:Int)]++[(p:Int)]):=by
      refine Cr.snoc ⟨h.ris,h.tie,h.lo,λx Y=>?_⟩ c (by omega);rcases OB.mp Y with Y|Y
      ·have:=(OD.mp h.ris).2.2 x Y l (.head _);omega
      ·rw[NW.mp Y];omega
     obtain⟨a1,a2,_⟩:=(j6 (by omega) W).mp Z;exact⟨a1,a2,q,e⟩
    ·cases Z
  ·rintro⟨h1,h2,q,rfl⟩;cases q with
   |nil=>
    rw[Oi]at h1 h2⊢;refine PD _ ?_;rw[if_pos h2];exact .head _
   | cons x q=>
    have Y:x∈st++[(l:Int)]++x::q:=N9 _ (.head _);have x0:=h1.lo x Y;have P:=h1.hi x Y;have X:=OD.mp h1.ris;have Q:=X.2.2 l (N9 _ (.head _)) x (.head _);obtain⟨p,rfl⟩:∃p:Nat,x=(p:Int):=⟨x.toNat,by omega⟩;have T:=OD.mp h1.tie;have R:CC E (st++[(l:Int)]) p=true:=Ag.mpr λy U=>T.2.2 y U p (.head _);have e:st++[(l:Int)]++(p:Int)::q=st++[(l:Int)]++[(p:Int)]++q:=by simp
    refine N9 _ (Oy.mpr ⟨p,O2.mpr ⟨by omega,by omega⟩,?_⟩);rw[if_pos R];have W:Cr n E (st++[(l:Int)]++[(p:Int)]):=by refine Cr.snoc ⟨h.ris,h.tie,h.lo,λy U=>X.2.2 y U p (.head _)⟩ R (by omega)
    rw[e]at h1 h2⊢;exact(j6 (by omega) W).mpr ⟨h1,h2,q,rfl⟩
theorem Bo(s:List Int):∀{a b:List Int},HT.lexLt (s++a) (s++b)=HT.lexLt a b:=by
 induction s with
 |nil=>intro a b;rfl
 |cons x s ih=>intro a b;show HT.lexLt (x::(s++a)) (x::(s++b))=_;rw[HT.lexLt_cons,if_pos rfl,ih]
theorem Bp{α Y:Type}{R:Y->Y->Prop}{f:α->List Y}:∀{l:List α},(∀a∈l,(f a).Pairwise R)->l.Pairwise (λa b=>∀x∈f a,∀y∈f b,R x y)->(l.flatMap f).Pairwise R
 |[],_,_=>.nil
 |a::l,h,hp=>by
  obtain⟨W,T⟩:=Oa.mp hp;rw[O4];refine OD.mpr ⟨h a (.head _),Bp (λb Z=>h b (.tail _ Z)) T,λx U y X=>?_⟩;obtain⟨b,Z,X⟩:=Oy.mp X;exact W b Z x U y X
theorem Bq{s:List Int}{a b:Nat}{q r:List Int}(h:a<b):HT.lexLt (s++[(a:Int)]++q) (s++[(b:Int)]++r)=true:=by rw[OF,OF,Bo];show HT.lexLt ((a:Int)::q) ((b:Int)::r)=b_;rw[HT.lexLt_cons,if_neg (by omega)];exact N1 (by omega)
theorem wj:∀(f:Nat) (st:List Int) (l:Nat),(wg E n f st l).Pairwise λa b=>HT.lexLt a b=b_
 |0,_,_=>.nil
 | f +1,st,l=>by
  refine OD.mpr ⟨by split<;>simp,Bp (λp _=>?_) ?_,λx Y y Z=>?_⟩
  ·split
   ·exact wj f _ _
   ·exact .nil
  ·refine(List.pairwise_lt_range').imp λ{a b} hab x Y y Z=>?_;split at Y
   ·split at Z
    ·obtain⟨q,rfl⟩:=nU Y;obtain⟨r,rfl⟩:=nU Z;exact Bq hab
    ·cases Z
   ·cases Y
  ·split at Y
   ·rw[NW.mp Y];obtain⟨p,_,Z⟩:=Oy.mp Z;split at Z
    ·obtain⟨q,rfl⟩:=nU Z;have:=Bo st (a:=[]) (b:=[(p:Int)]++q);rw[Oi, <-OF]at this;rw[this];rfl
    ·cases Z
   ·cases Y
theorem Br:(LA n E).Pairwise λa b=>HT.lexLt a b=true:=by refine Bp (λp _=>wj _ _ _) ((Qz).imp λ{a b} hab x hx y hy=>?_);obtain⟨q,rfl⟩:=nU hx;obtain⟨r,rfl⟩:=nU hy;exact Bq (s:=[]) hab
theorem Bs{r:List Int}(W:n<=7):r∈LA n E↔Cr n E r/\2<=r.length:=by
 have one:∀p:Nat,p<n->Cr n E ([]++[(p:Int)]):=λp Z=>⟨OH ..,OH ..,λx Y=>by rw[NW.mp Y];omega,λx Y=>by rw[NW.mp Y];omega⟩;unfold LA;rw[Oy];constructor
 ·rintro⟨p,Z,h⟩;have Z:=N0.mp Z;obtain⟨a1,a2,_⟩:=(j6 (st:=[]) (by omega) (one p Z)).mp h;exact⟨a1,a2⟩
 ·rintro⟨h1,h2⟩;cases r with
  |nil=>simp at h2
  |cons x q=>
   have x0:=h1.lo x (.head _);have X:=h1.hi x (.head _);obtain⟨p,rfl⟩:∃p:Nat,x=(p:Int):=⟨x.toNat,by omega⟩;exact⟨p,N0.mpr (by omega),(j6 (st:=[]) (by omega) (one p (by omega))).mpr ⟨h1,h2,q,rfl⟩⟩
theorem lG{l:List (List Int)}(h:l.Pairwise λa b=>HT.lexLt a b=b_):l.Nodup:=h.imp λ{a b} h e=>by subst e;rw[fL]at h;cases h
theorem CD(Z:n<=7):bc (NI n E)=LA n E:=by refine m3 ((bx _).trans ((Pq ((E3 n).filter _) (lG Br)).mpr λr=>?_)) (gh _) (Br.imp λh=>ku h);rw[Bs Z,NU,tm,N8];exact⟨λh=>⟨h.1,h.2⟩,λh=>⟨h.1,h.2⟩⟩
theorem E4:∀p,(lC E p).length<=2 ^ p
 |0=>NQ _
 |p+1=>by
  show(lC E p++_).length<=_;rw[NP,NM,Nat.pow_succ];have:=Om (λr=>CC E r p) (lC E p);have:=E4 p;omega
theorem Hb(Z:n<=7):(LA n E).length<=128:=by rw[<-CD Z,(bx _).length_eq];refine NZ (Om _ _) (NZ (E4 n) ?_);exact Nat.pow_le_pow_right (n:=2) (by decide) Z
theorem E5{f l:Nat}{st:List Int}(Z:n<=7)(X:n<l+f)(h:Cr n E (st++[(l:Int)])):(wg E n f (st++[(l:Int)]) l).length<=128:=by refine NZ (mM (lG (wj _ _ _)) λr Y=>?_) (Hb (E:=E) Z);obtain⟨a1,a2,_⟩:=(j6 X h).mp Y;exact(Bs Z).mpr ⟨a1,a2⟩
theorem Cr.len{r:List Int}(h:Cr n E r):r.length<=n:=by
 have W:(r.map Int.toNat).Nodup:=by refine List.Pairwise.map Int.toNat ?_ (h.ris.and (List.pairwise_of_forall_mem_list (r:=λa b=>0<=a/\0<=b) λa U b X=>⟨h.lo a U,h.lo b X⟩));intro a b Y e;omega
 have:=mM W (m:=dq n) λx T=>by obtain⟨y,Z,rfl⟩:=NY.mp T;have:=h.lo y Z;have:=h.hi y Z;exact N0.mpr (by omega)
 rw[NM,Oc]at this;exact this
end
section
variable {n:Nat}{E:List (List Int)}{d x y z v:D}{us xs ys:List D}{ρ:aE}{S:aK}{e e1 e2:TM}{i j:Nat}{a b p:Int}{t:List Int}
theorem M6(h:e ρ=aC (.tup us))(Y:e2 ρ=aC (.int i))(X:us.length<=100):aL (DO e oN (oS e2)) ρ=aC (.tup (us.take i)):=by refine d7 ?_;show(e ρ>>=λx=>oN ρ>>=λlo=>oS e2 ρ>>=λZ=>vC x lo Z)=_;rw[h,aq,show oN ρ=aC none from rfl,aq,show oS e2 ρ=aC (ar (i:Int)) by unfold oS;rw[Y];rfl,aq];show bw (S3.cutD us none (ar (i:Int)))=_;rw[Lo];unfold bw;rw[if_pos (by rw[OO];unfold lim;omega)]
theorem M7(Y:e1 ρ=aC (.tup xs))(Z:e2 ρ=aC (.tup ys))(X:xs.length+ys.length<=100):aL (aU cW e1 e2) ρ=aC (.tup (xs++ys)):=by refine d7 ((bo Y Z).trans ?_);show bw (xs++ys)=_;unfold bw;exact if_pos (by rw[NP];unfold lim;omega)
theorem yp{S:aK}{xs ys:List D}(Z:xs.length+ys.length<=10000):fK (.lst S.length) [.fz ys] (S++[xs])=ar (.ok .non,S++[xs++ys]):=by show(getL S.length>>=λxs=>nL S.length (xs++ys)) (S++[xs])=_;rw[aR (gT (d4 (S:=S) (xs:=xs))),m9 (by rw[NP];unfold lim;omega) (by simp)];rw[P5 _ _ (NQ _),Ql];rfl
end
section
variable {n:Nat}{E:List (List Int)}
theorem Hd{ρ:aE}{e:TM}{x:D}(h:e ρ=aC x):dz (ae e aj) ρ=aC (.tup [x]):=by show(ae _ _ _>>=bw)=_;rw[bq h (es:=aj) rfl,aq];unfold bw;exact if_pos (by show 1<=lim;unfold lim;omega)
theorem E6{r:List Int}{p:Int}(Z:r.length<=1000):gm [aw n E,tupI r,.int p]=aC (.bl (CC E r p)):=by
 unfold gm vT;refine cQ (o:=.ret (.bl (CC E r p))) (bS ?_) rfl;exact gw (l:=r) (mk:=D.int) (λy=>tB E y p) (λρ=>∃x,ρ=[x,ar (aw n E),ar (.int p)]) rfl (by unfold lim;omega) ⟨none,rfl⟩ λy hy ρ ⟨x,hρ⟩=>by subst hρ;exact⟨[ar (.int y),ar (aw n E),ar (.int p)],rfl,⟨_,rfl⟩,rfl,d7 ((nF rfl rfl rfl).trans sV)⟩
theorem He{s:List Int}{l:Int}:b9 (tupI (s++[l])) (.int (-1))=aC (.int l):=by
 show(match kJ ((s++[l]).map D.int) (-1)with|some d=>(aC d:M D)|none=>M.fail)=_;have:kJ ((s++[l]).map D.int) (-1)=ar (.int l):=by
  have Z:yM ((s++[l]).map D.int).length (-1)=ar s.length:=by rw[NM,NP];unfold yM;rw[if_neg (by decide),if_pos (by show -((s.length+1:Nat):Int)<= -1;omega)];congr 1;show((-1:Int)+((s.length+1:Nat):Int)).toNat=_;omega
  unfold kJ;rw[Z];show((s++[l]).map D.int)[s.length]? =_;rw[OG,O9 (by rw[NM];exact NQ _),NM,Ql];rfl
 rw[this]
theorem NJ{l:Nat}{e1 e2:TM}{ρ:aE}(Z:e1 ρ=aC (.int ((l:Int)+1)))(Y:e2 ρ=aC (.int n))(W:l<=1000)(X:n<=1000):vN e1 e2 ρ=aC ⟨(hO (l+1) (n - (l+1))).map λb:Nat=>.int (b:Int),.none⟩:=by rw[sI Z Y,En (by omega),rz]
theorem LB(W:n<=7)(w:WebOk n E):∀(f l:Nat) (s:List Int),n<l+f->Cr n E (s++[(l:Int)])->iF (dw f [aw n E,tupI (s++[(l:Int)])])=aC (.fz ((wg E n f (s++[(l:Int)]) l).map tupI))
 |0,l,s,hf,h=>by have:=h.hi l (N9 _ (.head _));omega
 | f + 1,l,s,hf,h=>by
  have K:=h.len;have P:(l:Int)<n:=h.hi l (N9 _ (.head _));generalize hst:s++[(l:Int)]=st at*;funext S;refine Bi ?_ (bt _);show j9 4 2 (fF (dw f)) [aw n E,tupI st] S=_;refine fy (o:=.ret (.lst S.length)) ?_ rfl;unfold fF;have O:Ni (d5 Hy (bX dj (mV 1)) (mK (.int 2))) (cX (ae (mV 1) aj)) (cX aj) [ar (aw n E),ar (tupI st),none,none] S=ar (.ok (.lst S.length),S++[(if 2<=st.length then [st]else []).map tupI]):=by
   have N:d5 Hy (bX dj (mV 1)) (mK (.int 2)) [ar (aw n E),ar (tupI st),none,none]=aC (decide ((2:Int)<=st.length)):=bA ((nk rfl).trans (by rw[NM])) (y:=.int 2) rfl rfl;show(d5 Hy _ _ _>>=_) S=_;rw[N,aq];by_cases c:2<=st.length
   ·rw[N1 (by omega),if_pos rfl,if_pos c];exact pZ (ys:=[tupI st]) (dH (S1:=S) rfl rfl) (by show 1<=lim;unfold lim;omega)
   ·rw[Ot (by omega),if_neg (by decide),if_neg c];exact pZ (ys:=[]) rfl (by show 0<=lim;unfold lim;omega)
  have L:vN (aU cW (aU b9 (mV 1) (mK (.int (-1)))) (mK (.int 1))) (aU b9 (mV 0) (mK (.int 0))) [ar (aw n E),ar (tupI st),ar (.lst S.length),none]=aC ⟨(hO (l+1) (n - (l+1))).map λb:Nat=>.int (b:Int),.none⟩:=by refine NJ ((bo ((bo (x:=tupI st) (y:=.int (-1)) rfl rfl).trans (by rw[<-hst];exact He)) (y:=.int 1) rfl).trans rfl) ((bo (x:=aw n E) (y:=.int 0) rfl rfl).trans rfl) (by omega) (by omega)
  obtain⟨ρ',⟨x3,rfl⟩,Y⟩:=forA (α:=Nat) (mk:=λi:Nat=>D.int (i:Int)) (f:=λp:Nat=>(if CC E st p=b_ then wg E n f (st++[(p:Int)]) p else []).map tupI) (g:=gN 3) (b:=ft (dw f)) (its:=(hO (l+1) (n - (l+1))).map λi:Nat=>D.int (i:Int)) (S:=S) 128
   (λρ=>∃x,ρ=[ar (aw n E),ar (tupI st),ar (.lst S.length),x]) (hO (l+1) (n - (l+1))) ((if 2<=st.length then [st]else []).map tupI) [ar (aw n E),ar (tupI st),ar (.lst S.length),none] ⟨none,rfl⟩
   (by
    rw[Pz,NM];have:(if 2<=st.length then [st]else []).length<=1:=by split<;>simp
    omega)
   (λp Q=>by
    have Q:=O2.mp Q;have X:CC E st p=b_->Cr n E (st++[(p:Int)]):=λU=>by
     refine Cr.snoc ⟨h.ris,h.tie,h.lo,λx Z=>?_⟩ U (by omega);rw[<-hst]at Z h;rcases OB.mp Z with Z|Z
     ·have:=(OD.mp h.ris).2.2 x Z l (.head _);omega
     ·rw[NW.mp Z];omega
    refine⟨?_,λρ xs ⟨x,hρ⟩ hxs=>?_⟩
    ·rw[NM];split
     ·next c=>exact E5 W (by omega) (X c)
     ·exact Og _
    ·subst hρ;refine⟨[ar (aw n E),ar (tupI st),ar (.lst S.length),ar (.int p)],_,rfl,⟨ar (.int p),rfl⟩,?_⟩;unfold ft;have U:bV (aL (ak gm (ae (mV 0) (ae (mV 1) (ae (mV 3) aj))))) [ar (aw n E),ar (tupI st),ar (.lst S.length),ar (.int p)]=aC (CC E st p):=e9 (d7 ((nF rfl rfl rfl).trans (E6 (by omega))));refine(Oh (b7 U) _).trans ?_;by_cases c:CC E st p=b_
     ·rw[if_pos c,if_pos c];have R:aL (aU cW (mV 1) (dz (ae (mV 3) aj))) [ar (aw n E),ar (tupI st),ar (.lst S.length),ar (.int p)]=aC (tupI (st++[(p:Int)])):=by
       refine(M7 (xs:=st.map D.int) (ys:=[.int p]) rfl (Hd rfl) (by rw[NM];show _+1<=_;omega)).trans ?_;unfold tupI;rw[OG];rfl
      have T:aL (ak (dw f) (ae (mV 0) (ae (aL (aU cW (mV 1) (dz (ae (mV 3) aj)))) aj))) [ar (aw n E),ar (tupI st),ar (.lst S.length),ar (.int p)]=aC (.fz ((wg E n f (st++[(p:Int)]) p).map tupI)):=by unfold aL at R⊢;show iF (ak _ _ _)=_;rw[call2 (x:=aw n E) rfl R];exact LB W w f p st (by omega) (X c)
      refine uM (x:=.non) ((Oh (HH (f:=fK) (e1:=mV 2) (x:=.lst S.length) rfl rfl T) _).trans ?_);rw[aq];exact yp (by rw[NM];have:=E5 W (show n<p+f by omega) (X c);omega)
     ·rw[if_neg c,if_neg c,Pl,Oi];rfl)
  refine(aZ (ρ':=[ar (aw n E),ar (tupI st),ar (.lst S.length),none]) (cg O)).trans ((aZ (pY L Y)).trans ?_);refine(gr (x:=.lst S.length) (S1:=_) rfl).trans ?_;congr 4;show _=List.map tupI ((if 2<=st.length then [st]else [])++(hO (l+1) (n - (l+1))).flatMap λp:Nat=>if CC E st p=b_ then wg E n f (st++[(p:Int)]) p else []);rw[OG,QK]
end
structure Shr(n:Nat)(E T:List (List Int)):Prop where
 ris:T.Pairwise λa b=>HT.lexLt a b=b_
 cr:∀c∈T,CrowdOk n E c
 tie:∀t∈E,bD T t=1
 pl:∀i:Nat,i<n->bD T [(i:Int)]<=2
theorem t4{x y:Int}{c:List Int}:([x,y].all λp=>bU p c)=b_↔x∈c/\y∈c:=by rw[QN,QN,R4,RF,OA,aW,aW]
theorem t5{x:Int}{c:List Int}:([x].all λp=>bU p c)=b_↔x∈c:=by rw[QN,R4,RF,aW]
theorem len_one{α:Type}{l:List α}{a:α}(Z:l.Nodup)(X:a∈l)(h:∀b∈l,b=a):l.length=1:=by
 match l,Z,X,h with
 |[x],_,_,_=>rfl
 |x::y::r,Z,_,h=>
  have Y:=h x (.head _);have W:=h y (.tail _ (.head _));exact((ON.mp Z).1 (by rw[Y, <-W];exact .head _)).elim
theorem Bt{α:Type}{l:List α}{a b:α}(h:l.length<=1)(Y:a∈l)(Z:b∈l):a=b:=by
 match l,h,Y,Z with
 |[x],_,Y,Z=>rw[NW.mp Y,NW.mp Z]
theorem rA{s t:List Int}(hs:s.Pairwise (· <·))(T:t.Pairwise (· <·))(h:∀x,x∈s↔x∈t):s=t:=by
 induction s generalizing t with
 |nil=>
  cases t with
  |nil=>rfl
  |cons y t=>have:=(h y).mpr (.head _);cases this
 | cons x s ih=>
  cases t with
  |nil=>have:=(h x).mp (.head _);cases this
  | cons y t=>
   obtain⟨W,X⟩:=Oa.mp hs;obtain⟨U,Y⟩:=Oa.mp T;have e:x=y:=by
    rcases N6.mp ((h x).mp (.head _))with e|m
    ·exact e
    ·rcases N6.mp ((h y).mpr (.head _))with e|m'
     ·exact e.symm
     ·have:=W y m';have:=U x m;omega
   subst e;congr 1;refine ih X Y λz=>⟨λZ=>?_,λZ=>?_⟩
   ·rcases N6.mp ((h z).mp (.tail _ Z))with e|m
    ·have:=W z Z;omega
    ·exact m
   ·rcases N6.mp ((h z).mpr (.tail _ Z))with e|m
    ·have:=U z Z;omega
    ·exact m
theorem Hf{A B:List (List Int)}(hs:A.Pairwise λa b=>HT.lexLt a b=b_)(Z:B.Pairwise λa b=>HT.lexLt a b=b_)(h:∀x,x∈A↔x∈B):A=B:=
 m3 ((Pq (lG hs) (lG Z)).mpr h) (hs.imp λh=>ku h) (Z.imp λh=>ku h)
section
variable {n:Nat}{E T:List (List Int)}
theorem Shr.two(h:Shr n E T){c d:List Int}(S:c∈T)(P:d∈T){x y:Int}(U:x≠y)(Z:x∈c)(Y:y∈c)(X:x∈d)(W:y∈d):c=d:=by
 have key:∀{x y:Int},x<y->x∈c->y∈c->x∈d->y∈d->c=d:=λ{x y} hlt Z Y X W=>by have R:=(h.cr c S).tied x Z y Y hlt;rw[iG hlt,N8]at R;have Q:=h.tie _ R;unfold bD at Q;exact Bt (P4 Q) (NU.mpr ⟨S,t4.mpr ⟨Z,Y⟩⟩) (NU.mpr ⟨P,t4.mpr ⟨X,W⟩⟩)
 rcases P0 U with z|z
 ·exact key z Z Y X W
 ·exact key z Y Z W X
theorem Shr.ex(h:Shr n E T){x y:Int}(W:[x,y]∈E):∃c∈T,x∈c/\y∈c:=by have Z:=h.tie _ W;unfold bD at Z;obtain⟨c,Y⟩:=List.exists_mem_of_length_pos (by rw[Z];decide);obtain⟨X,U⟩:=NU.mp Y;exact⟨c,X,t4.mp U⟩
def lO(n':Nat)(φ:Nat->Int)(c:List Int):List Int:=((dq n').filter λi=>bU (φ i) c).map λi:Nat=>(i:Int)
def nG(n':Nat)(φ:Nat->Int)(T:List (List Int)):List (List Int):=bc ((T.map (lO n' φ)).filter λs=>decide (1<s.length))
theorem dW{W:Nat}{X:Nat->Int}{c:List Int}{x:Int}:x∈lO W X c↔∃i:Nat,x=(i:Int)/\i<W/\X i∈c:=by
 unfold lO;constructor
 ·intro h;obtain⟨i,U,rfl⟩:=NY.mp h;obtain⟨Z,Y⟩:=NU.mp U;exact⟨i,rfl,N0.mp Z,aW.mp Y⟩
 ·rintro⟨i,rfl,Z,Y⟩;exact NY.mpr ⟨i,NU.mpr ⟨N0.mpr Z,aW.mpr Y⟩,rfl⟩
theorem wo(Y:Nat)(Z:Nat->Int)(c:List Int):(lO Y Z c).Pairwise (· <·):=by unfold lO;rw[Oz];exact(OK _ Qz).imp λh=>by omega
theorem Ah{s:List Int}(hs:s.Pairwise (· <·))(h:1<s.length):∃x y,x∈s/\y∈s/\x<y:=by
 match s,hs,h with
 |x::y::r,hs,_=>exact⟨x,y,.head _,.tail _ (.head _),(Oa.mp hs).1 y (.head _)⟩
theorem of_two{s:List Int}{x y:Int}(Y:x∈s)(Z:y∈s)(h:x≠y):1<s.length:=by
 match s,Y,Z with
 |[a],Y,Z=>exact(h (by rw[NW.mp Y,NW.mp Z])).elim
 |a::b::r,_,_=>simp
theorem kG{Y:Nat}{Z:Nat->Int}{d:List Int}:d∈nG Y Z T↔1<d.length/\∃c∈T,d=lO Y Z c:=by unfold nG;rw[(bx _).mem_iff,NU,N8,NY];exact⟨λ⟨⟨c,h1,h2⟩,h3⟩=>⟨h3,c,h1,h2.symm⟩,λ⟨h3,c,h1,h2⟩=>⟨⟨c,h1,h2.symm⟩,h3⟩⟩
structure Pul(n':Nat)(E':List (List Int))(n:Nat)(E:List (List Int))(φ:Nat->Int):Prop where
 inj:∀i j,i<n'->j<n'->φ i=φ j->i=j
 el:∀i,i<n'->0<=φ i/\φ i<n
 ok:∀i j:Nat,i<n'->j<n'->i≠j->tB E' (i:Int) (j:Int)=tB E (φ i) (φ j)
theorem Bu{Y:Nat}{E':List (List Int)}{Z:Nat->Int}(p:Pul Y E' n E Z)(w':WebOk Y E')(h:Shr n E T):Shr Y E' (nG Y Z T):=by
 have J:∀c∈T,∀o∈T,1<(lO Y Z c).length->lO Y Z c=lO Y Z o->c=o:=λc X o Q hl e=>by
  obtain⟨x,y,O,N,R⟩:=Ah (wo Y Z c) hl;have F:=O;have H:=N;rw[e]at F H;obtain⟨i,rfl,A,r⟩:=dW.mp O;obtain⟨j,rfl,v,u⟩:=dW.mp N;obtain⟨L,S,_,i3⟩:=dW.mp F;obtain⟨l,G,_,j3⟩:=dW.mp H;have S:i=L:=by omega
  have G:j=l:=by omega
  subst S G;exact h.two X Q (λz=>by have:=p.inj i j A v z;omega) r u i3 j3
 have nd:((T.map (lO Y Z)).filter λs=>decide (1<s.length)).Nodup:=by have hT:=lG h.ris;rw[PK,OT,Oz];refine Ox ?_ (OK _ hT);intro a b ha hb f e;obtain⟨a4,g⟩:=NU.mp ha;exact f (J a a4 b (NU.mp hb).1 (by simpa using g) e)
 have B:=z9 nd;have I:(nG Y Z T).Nodup:=lG B;refine⟨B,λd hd=>?_,λt ht=>?_,λi C=>?_⟩
 ·obtain⟨hl,c,X,rfl⟩:=kG.mp hd;refine⟨wo Y Z c,λx O=>?_,hl,λx O y N R=>?_⟩
  ·obtain⟨i,rfl,A,_⟩:=dW.mp O;omega
  ·obtain⟨i,rfl,A,r⟩:=dW.mp O;obtain⟨j,rfl,v,u⟩:=dW.mp N;rw[p.ok i j A v (by omega)];have W:Z i≠Z j:=λz=>by have:=p.inj i j A v z;omega
   rcases P0 W with z|z
   ·exact(h.cr c X).tied _ r _ u z
   ·rw[gW];exact(h.cr c X).tied _ u _ r z
 ·obtain⟨x,y,rfl,h0,R,N⟩:=w'.el t ht;obtain⟨i,rfl⟩:=Oo h0;obtain⟨j,rfl⟩:=Oo (by omega:0<=y);have C:i<Y:=by omega
  have hj:j<Y:=by omega
  have U:tB E (Z i) (Z j)=true:=by rw[<-p.ok i j C hj (by omega),iG R,N8];exact ht
  have W:Z i≠Z j:=λz=>by have:=p.inj i j C hj z;omega
  obtain⟨c,X,w,K⟩:∃c∈T,Z i∈c/\Z j∈c:=by
   rcases P0 W with z|z
   ·rw[iG z,N8]at U;exact h.ex U
   ·rw[gW,iG z,N8]at U;obtain⟨c,X,a,b⟩:=h.ex U;exact⟨c,X,b,a⟩
  have m1:(i:Int)∈lO Y Z c:=dW.mpr ⟨i,rfl,C,w⟩;have m2:(j:Int)∈lO Y Z c:=dW.mpr ⟨j,rfl,hj,K⟩;unfold bD;refine len_one (a:=lO Y Z c) (OK _ I) (NU.mpr ⟨kG.mpr ⟨of_two m1 m2 (by omega),c,X,rfl⟩,t4.mpr ⟨m1,m2⟩⟩) λd hd=>?_;obtain⟨P,hd2⟩:=NU.mp hd;obtain⟨_,o,Q,rfl⟩:=kG.mp P;obtain⟨e1,e2⟩:=t4.mp hd2;obtain⟨L,S,_,q1⟩:=dW.mp e1;obtain⟨l,G,_,q2⟩:=dW.mp e2;have S:i=L:=by omega
  have G:j=l:=by omega
  subst S G;rw[h.two Q X W q1 q2 w K]
 ·have hp:=p.el i C;obtain⟨k,hk⟩:=Oo hp.1;have h2:=h.pl k (by omega);unfold bD at h2⊢;refine NZ (mM (m:=(T.filter λc=>[(k:Int)].all λx=>bU x c).map (lO Y Z)) (OK _ I) λd hd=>?_) (by rw[NM];exact h2);obtain⟨P,hd2⟩:=NU.mp hd;obtain⟨_,c,X,rfl⟩:=kG.mp P;obtain⟨L,S,_,q⟩:=dW.mp (t5.mp hd2);have S:i=L:=by omega
  subst S;exact NY.mpr ⟨c,NU.mpr ⟨X,t5.mpr (by rw[<-hk];exact q)⟩,rfl⟩
theorem E7{X:Nat}{W:Nat->Int}{ψ:Nat->Nat}(Z:∀k:Nat,k<n->ψ k<X/\W (ψ k)=(k:Int)){R:List (List Int)}(h:Shr n E T)(h':Shr n E R)(e:nG X W T=nG X W R):T=R:=by
 have sub:∀{A B:List (List Int)},Shr n E A->Shr n E B->nG X W A=nG X W B->∀c∈A,c∈B:=λ{A B} hA hB e c hc=>by
  have Y:∀{C:List (List Int)},Shr n E C->∀d∈C,∀x∈d,∃k:Nat,x=(k:Int)/\k<n/\(((ψ k:Nat):Int)∈lO X W d):=λ{C} hC d hd x S=>by have:=(hC.cr d hd).el x S;obtain⟨k,rfl⟩:=Oo this.1;obtain⟨N,I⟩:=Z k (by omega);exact⟨k,rfl,by omega,dW.mpr ⟨_,rfl,N,by rw[I];exact S⟩⟩
  obtain⟨x,y,S,H,L⟩:=Ah (hA.cr c hc).ris (hA.cr c hc).two;obtain⟨k,rfl,U,mk⟩:=Y hA c hc x S;obtain⟨l,rfl,J,ml⟩:=Y hA c hc y H;have Q:((ψ k:Nat):Int)≠(ψ l:Nat):=λz=>by have:=(Z k U).2;rw[show ψ k=ψ l by omega,(Z l J).2]at this;omega
  have hm:lO X W c∈nG X W A:=kG.mpr ⟨of_two mk ml Q,c,hc,rfl⟩;rw[e]at hm;obtain⟨_,d,hd,O⟩:=kG.mp hm;have:c=d:=rA (hA.cr c hc).ris (hB.cr d hd).ris λz=>by
   constructor
   ·intro P;obtain⟨k,rfl,U,mk⟩:=Y hA c hc z P;rw[O]at mk;obtain⟨i,K,_,q⟩:=dW.mp mk;rw[<-show ψ k=i by omega,(Z k U).2]at q;exact q
   ·intro P;obtain⟨k,rfl,U,mk⟩:=Y hB d hd z P;rw[<-O]at mk;obtain⟨i,K,_,q⟩:=dW.mp mk;rw[<-show ψ k=i by omega,(Z k U).2]at q;exact q
  rw[this];exact hd
 exact Hf h.ris h'.ris λc=>⟨sub h h' e c,sub h' h e.symm c⟩
end
def CS(T:List (List Int))(c:List Int):Bool:= !(c.any λp=>decide (bD T [p]=2)) && T.all λo=>decide ((c.filter λp=>bU p o).length<2)
def hV(E T:List (List Int)):List (List Int):=E.filter λt=>decide (bD T t=0)
def tJ(E:List (List Int))(n:Nat):Nat->List (List Int)->List (List (List Int))
 |0,_=>[]
 |f+1,T=>match hV E T with
  |[]=>[T]
  |t::_=>((wg E n 9 t (t.getD 1 0).toNat).filter (CS T)).flatMap λc=>tJ E n f (T++[c])
structure InvT(n:Nat)(E T:List (List Int)):Prop where
 cr:∀c∈T,CrowdOk n E c
 two:T.Pairwise λc d=>∀x y,x∈c->x∈d->y∈c->y∈d->x=y
 pl:∀x:Int,bD T [x]<=2
 hd:∀c∈T,∀t∈hV E T,HT.lexLt (c.take 2) t=b_
 ris:T.Pairwise λa b=>HT.lexLt a b=b_
theorem yq(T:List (List Int))(c Z:List Int):bD (T++[c]) Z=bD T Z+(if (Z.all λx=>bU x c)=b_ then 1 else 0):=by unfold bD;rw[Qt,NP,Qf];split<;>rfl
theorem uX(T U:List (List Int))(Z:List Int):bD (T++U) Z=bD T Z+bD U Z:=by unfold bD;rw[Qt,NP]
theorem Hg{α:Type}{l:List α}(h:l.Pairwise λ_ _=>False):l.length<=1:=by
 match l,h with
 |[],_=>exact Og _
 |[_],_=>exact NQ _
 |a::b::r,h=>exact((Oa.mp h).1 b (.head _)).elim
theorem Cr.crowd{n:Nat}{E:List (List Int)}{r:List Int}(h:Cr n E r)(X:1<r.length):CrowdOk n E r:=by
 refine⟨h.ris,λx Z=>⟨h.lo x Z,h.hi x Z⟩,X,?_⟩;have key:∀{r:List Int},r.Pairwise (λa b=>a<b)->r.Pairwise (λa b=>tB E a b=b_)->∀x∈r,∀y∈r,x<y->tB E x y=true:=λ{r}=>by
  induction r with
  |nil=>intro _ _ x Z;cases Z
  | cons z r ih=>
   intro U X x Z y W Y;obtain⟨a1,a2⟩:=Oa.mp U;obtain⟨T,S⟩:=Oa.mp X;rcases N6.mp Z with e|mx
   ·rcases N6.mp W with e'|my
    ·omega
    ·rw[e];exact T y my
   ·rcases N6.mp W with e'|my
    ·have:=a1 x mx;omega
    ·exact ih a2 S x mx y my Y
 exact key h.ris h.tie
theorem CrowdOk.cr{n:Nat}{E:List (List Int)}{r:List Int}(h:CrowdOk n E r):Cr n E r:=
 ⟨h.ris,Ox (λ{a b} ha hb hab=>h.tied a ha b hb hab) h.ris,λx Z=>(h.el x Z).1,λx Z=>(h.el x Z).2⟩
theorem Bv{a b x y:Int}{p q:List Int}(h:HT.lexLt [a,b] [x,y]=b_):HT.lexLt (a::b::p) (x::y::q)=true:=by
 rw[EV]at h;rw[HT.lexLt_cons];by_cases e:a=x
 ·subst e;rw[if_pos rfl,HT.lexLt_cons];have h:b<y:=by omega
  rw[if_neg (by omega)];exact N1 h
 ·rw[if_neg e];exact N1 (by omega)
section
variable {n:Nat}{E T:List (List Int)}
theorem InvT.nil:InvT n E []:=⟨(λc Z=>by cases Z),.nil,λ_=>Og _,(λc Z=>by cases Z),.nil⟩
theorem hX{t:List Int}:t∈hV E T↔t∈E/\bD T t=0:=by unfold hV;rw[NU,N8]
theorem yr(w:WebOk n E):(hV E T).Pairwise λa b=>HT.lexLt a b=true:=O3 Pm w.ris
theorem E8{c:List Int}:CS T c=b_↔(∀p∈c,bD T [p]≠2)/\∀o∈T,(c.filter λp=>bU p o).length<2:=by unfold CS;rw[OA,C_,List.any_eq_false,Of];simp only[decide_eq_true_eq]
theorem wq(S:n<=7)(w:WebOk n E){t:List Int}(W:t∈E):∃(a:Int) (l:Nat),t=[a]++[(l:Int)]/\Cr n E ([a]++[(l:Int)])/\l<n/\(t.getD 1 0).toNat=l/\∀c,c∈wg E n 9 t (t.getD 1 0).toNat↔Cr n E c/\2<=c.length/\∃q,c=[a]++[(l:Int)]++q:=by
 obtain⟨a,b,rfl,h0,X,U⟩:=w.el t W;obtain⟨l,rfl⟩:=Oo (show 0<=b by omega);have Y:Cr n E ([a]++[(l:Int)]):=by
  refine⟨?_,?_,λx Z=>?_,λx Z=>?_⟩
  ·show[a,(l:Int)].Pairwise _;simpa using X
  ·show[a,(l:Int)].Pairwise _;have:tB E a l=true:=by rw[iG X];exact N1 W
   simpa using this
  ·rcases N6.mp Z with rfl|Z
   ·exact h0
   ·rw[NW.mp Z];omega
  ·rcases N6.mp Z with rfl|Z
   ·omega
   ·rw[NW.mp Z];omega
 refine⟨a,l,rfl,Y,by omega,rfl,λc=>?_⟩;exact j6 (f:=9) (st:=[a]) (l:=l) (by omega) Y
theorem InvT.step(J:n<=7)(w:WebOk n E)(h:InvT n E T){t:List Int}{r:List (List Int)}(U:hV E T=t::r){c:List Int}(L:c∈wg E n 9 t (t.getD 1 0).toNat)(G:CS T c=b_):InvT n E (T++[c])/\CrowdOk n E c/\c.take 2=t:=by
 have C:=hX.mp (show t∈hV E T by rw[U];exact .head _);obtain⟨a,l,rfl,v,s,_,P⟩:=wq J w C.1;obtain⟨A,o,q,rfl⟩:=(P c).mp L;have Y:=A.crowd (by omega);obtain⟨g1,g2⟩:=E8.mp G;have O:(([a]++[(l:Int)])++q).take 2=[a]++[(l:Int)]:=rfl;have X:=yr (T:=T) w;rw[U]at X;have sub:∀u∈hV E (T++[[a]++[(l:Int)]++q]),u∈hV E T/\u≠[a]++[(l:Int)]:=λu S=>by obtain⟨Z,W⟩:=hX.mp S;rw[yq]at W;refine⟨hX.mpr ⟨Z,by omega⟩,λe=>?_⟩;subst e;rw[if_pos (by exact t4.mpr ⟨.head _,.tail _ (.head _)⟩)]at W;omega
 refine⟨⟨λd hd=>?_,?_,λx=>?_,λd hd u S=>?_,?_⟩,Y,O⟩
 ·rcases OB.mp hd with hd|hd
  ·exact h.cr d hd
  ·rw[NW.mp hd];exact Y
 ·rw[OD];refine⟨h.two,OH _ _,λd hd e he x y K xe I N=>?_⟩;rw[NW.mp he]at xe N;have:=g2 d hd;refine Pb λQ=>?_;have F:x∈([a]++[(l:Int)]++q).filter λp=>bU p d:=NU.mpr ⟨xe,aW.mpr K⟩;have H:y∈([a]++[(l:Int)]++q).filter λp=>bU p d:=NU.mpr ⟨N,aW.mpr I⟩;have:=of_two F H Q;omega
 ·rw[yq];have:=h.pl x;split
  ·next z=>
   have:=g1 x (t5.mp z);omega
  ·omega
 ·obtain⟨Z,W⟩:=sub u S;rcases OB.mp hd with hd|hd
  ·exact h.hd d hd u Z
  ·rw[NW.mp hd,O];rw[U]at Z;rcases N6.mp Z with e|Z
   ·exact(W e).elim
   ·exact(Oa.mp X).1 u Z
 ·rw[OD];refine⟨h.ris,OH _ _,λd hd e he=>?_⟩;rw[NW.mp he];have R:=h.hd d hd _ (show[a]++[(l:Int)]∈hV E T by rw[U];exact .head _);have B:=(h.cr d hd).two
  match d,R,B with
  |x::y::p,R,_=>exact Bv R
theorem InvT.fin(h:InvT n E T)(w:WebOk n E)(S:hV E T=[]):Shr n E T:=by
 refine⟨h.ris,h.cr,λt Y=>?_,λi _=>h.pl i⟩;obtain⟨a,b,rfl,h0,Q,P⟩:=w.el t Y;have O:bD T [a,b]≠0:=λz=>by have:=hX.mpr ⟨Y,z⟩;rw[S]at this;cases this
 have N:bD T [a,b]<=1:=by unfold bD;refine Hg (Ox ?_ (OK _ h.two));intro c d X hd Z;obtain⟨R,x2⟩:=t4.mp (NU.mp X).2;obtain⟨U,W⟩:=t4.mp (NU.mp hd).2;have:=Z a b R U x2 W;omega
 omega
theorem o9:∀{f:Nat} {T R:List (List Int)},R∈tJ E n f T->∃q,R=T++q
 |0,T,R,h=>by cases h
 | f+1,T,R,h=>by
  unfold tJ at h;split at h
  ·exact⟨[],by rw[NW.mp h,Oi]⟩
  ·obtain⟨c,_,Z⟩:=Oy.mp h;obtain⟨q,e⟩:=o9 Z;exact⟨[c]++q,by rw[e,OF]⟩
theorem nu(Z:n<=7)(w:WebOk n E):∀{f:Nat} {T R:List (List Int)},InvT n E T->R∈tJ E n f T->Shr n E R
 |0,T,R,_,h=>by cases h
 | f+1,T,R,hT,h=>by
  unfold tJ at h;split at h
  ·next hf=>
   rw[NW.mp h];exact hT.fin w hf
  ·next t r hf=>
   obtain⟨c,X,W⟩:=Oy.mp h;obtain⟨c1,Y⟩:=NU.mp X;exact nu Z w (hT.step Z w hf c1 Y).1 W
theorem Ai(W:n<=7):∀{f:Nat} {T:List (List Int)},(tJ E n f T).Nodup
 |0,T=>.nil
 | f+1,T=>by
  unfold tJ;split
  ·exact OH _ _
  ·next t r hf=>
   refine Bp (R:=λa b=>a≠b) (λc _=>Ai W) ?_;refine List.Pairwise.imp ?_ (OK _ (lG (wj (E:=E) (n:=n) 9 t (t.getD 1 0).toNat)));intro c d Z x Y y X e;obtain⟨p,e1⟩:=o9 Y;obtain⟨q,e2⟩:=o9 X;rw[e1,e2,OF,OF]at e;exact Z (OJ (List.append_cancel_left e)).1
theorem Shr.have0(h:Shr n E T){c:List Int}(Y:c∈T){x y:Int}(X:x∈c)(Q:y∈c)(Z:x<y){U V:List (List Int)}(e:T=U++V)(S:c∉U):bD U [x,y]=0:=by unfold bD;rw[Ro,QA];intro d hd z;obtain⟨W,R⟩:=t4.mp z;exact S (by rw[h.two Y (by rw[e];exact PD _ hd) (by omega) X Q W R];exact hd)
theorem mO{c:List Int}(h:CrowdOk n E c)(w:WebOk n E):∃x y q,c=x::y::q/\x<y/\[x,y]∈E:=by
 have Y:=h.two
 match c,h,Y with
 |x::y::q,h,_=>
  have Z:x<y:=(Oa.mp h.ris).1 y (.head _);have:=h.tied x (.head _) y (.tail _ (.head _)) Z;rw[iG Z,N8]at this;exact⟨x,y,q,rfl,Z,this⟩
theorem yt(g:n<=7)(w:WebOk n E){S:List (List Int)}(h:Shr n E S):∀(f k:Nat),k<=S.length->S.length<k+f->S∈tJ E n f (S.take k)
 |0,k,h1,A=>by omega
 | f + 1,k,h1,A=>by
  have R:S=S.take k++S.drop k:=(List.take_append_drop k S).symm;have nd:=lG h.ris;have U:∀d∈S.drop k,d∉S.take k:=λd hd B=>by rw[R,QE]at nd;exact nd.2.2 d B d hd rfl
  have fr:∀x y q,x::y::q∈S.drop k->x<y->[x,y]∈E->[x,y]∈hV E (S.take k):=λx y q hd Z he=>
   hX.mpr ⟨he,h.have0 (Pi hd) (.head _) (.tail _ (.head _)) Z R (U _ hd)⟩
  unfold tJ;split
  ·next hf=>
   rw[NW]
   match hd:S.drop k with
   |[]=>rw[hd,Oi]at R;exact R
   |d::r=>
    have hm:d∈S.drop k:=by rw[hd];exact .head _
    obtain⟨x,y,q,rfl,Z,he⟩:=mO (h.cr d (Pi hm)) w;have:=fr x y q hm Z he;rw[hf]at this;cases this
  ·next t r hf=>
   have Q:=yr (T:=S.take k) w;rw[hf]at Q;have H:t∈hV E (S.take k):=by rw[hf];exact .head _
   obtain⟨ht,h0⟩:=hX.mp H;obtain⟨a,l,rfl,s,hl,b1,u⟩:=wq g w ht;have b5:a<(l:Int):=by have:=s.ris;simpa using this
   obtain⟨c,X,ca,cl⟩:=h.ex (show[a,(l:Int)]∈E from ht);have G:c∉S.take k:=λz=>by unfold bD at h0;rw[Ro,QA]at h0;exact h0 c z (t4.mpr ⟨ca,cl⟩)
   have early:∀x y,x<y->x∈c->y∈c->HT.lexLt [x,y] [a,(l:Int)]=b_->False:=λx y Y O P Z=>by
    have L:=(h.cr c X).tied x O y P Y;rw[iG Y,N8]at L;have:=hX.mpr ⟨L,h.have0 X O P Y R G⟩;rw[hf]at this;rcases N6.mp this with e|m
    ·rw[e,show HT.lexLt ([a]++[(l:Int)]) [a,(l:Int)]=c_ from fL _]at Z;cases Z
    ·have v:=(Oa.mp Q).1 _ m;have:=vG Z (show HT.lexLt [a,(l:Int)] [x,y]=b_ from v);rw[fL]at this;cases this
   obtain⟨q,rfl⟩:∃q,c=[a]++[(l:Int)]++q:=by
    obtain⟨x,y,q,rfl,Y,_⟩:=mO (h.cr c X) w;have K:=(h.cr _ X).ris;obtain⟨r1,r2⟩:=Oa.mp K;have O:x=a:=by
     rcases N6.mp ca with e|m
     ·exact e.symm
     ·have:=r1 a m;exact(early x a this (.head _) ca (EV.mpr (.inl this))).elim
    subst O;have P:y=(l:Int):=by
     rcases N6.mp cl with e|m
     ·omega
     ·rcases N6.mp m with e|m
      ·exact e.symm
      ·have:=(Oa.mp r2).1 l m;exact(early x y Y (.head _) (.tail _ (.head _)) (EV.mpr (.inr ⟨rfl,this⟩))).elim
    subst P;exact⟨q,rfl⟩
   have I:∃N,S.drop k=([a]++[(l:Int)]++q)::N:=by
    have W:[a]++[(l:Int)]++q∈S.drop k:=by rw[R]at X;exact(OB.mp X).resolve_left G
    match hd:S.drop k with
    |[]=>rw[hd]at W;cases W
    | d::N=>
     rw[hd]at W;rcases N6.mp W with e|m
     ·exact⟨N,by rw[e]⟩
     ·exfalso;have hm:d∈S.drop k:=by rw[hd];exact .head _
      have K:(S.drop k).Pairwise λa b=>HT.lexLt a b=true:=O3 (List.drop_sublist k S) h.ris;rw[hd]at K;have Z:=(Oa.mp K).1 _ m;obtain⟨x,y,p,rfl,Y,L⟩:=mO (h.cr d (Pi hm)) w;have j:=fr x y p hm Y L;rw[hf]at j;rcases N6.mp j with e|mu
      ·obtain⟨e1,e2⟩:=OJ e;have e2:=(OJ e2).1;have:=h.two (Pi hm) X (show x≠y by omega) (.head _) (.tail _ (.head _)) (by rw[e1];exact .head _) (by rw[e2];exact .tail _ (.head _));rw[this,fL]at Z;cases Z
      ·have v:=(Oa.mp Q).1 _ mu;have h4:HT.lexLt (a::(l:Int)::q) (x::y::p)=true:=Bv v;have:=ku h4;rw[show HT.lexLt (x::y::p) (a::(l:Int)::q)=b_ from Z]at this;cases this
   obtain⟨N,hd⟩:=I;have hk:k<S.length:=by refine Nat.lt_of_not_le λz=>?_;rw[List.drop_of_length_le z]at hd;cases hd
   have C:S.take (k+1)=S.take k++[[a]++[(l:Int)]++q]:=by rw[List.take_add,hd];rfl
   have ih:=yt g w h f (k+1) hk (by omega);rw[C]at ih;refine Oy.mpr ⟨_,NU.mpr ⟨(u _).mpr ⟨(h.cr _ X).cr,(h.cr _ X).two,q,rfl⟩,E8.mpr ⟨λp hp=>?_,λo ho=>?_⟩⟩,ih⟩
   ·have J:=(h.cr _ X).el p hp;obtain⟨i,rfl⟩:=Oo J.1;have A:=h.pl i (by omega);rw[R,uX,hd]at A;have:1<=bD (([a]++[(l:Int)]++q)::N) [(i:Int)]:=by
     unfold bD;exact List.length_pos_of_mem (NU.mpr ⟨.head _,t5.mpr hp⟩)
    omega
   ·refine Nat.lt_of_not_le λz=>?_;have F:(([a]++[(l:Int)]++q).filter λp=>bU p o).Pairwise (· <·):=OK _ (h.cr _ X).ris;obtain⟨x,y,O,P,Y⟩:=Ah F z;obtain⟨x1,x2⟩:=NU.mp O;obtain⟨y1,y2⟩:=NU.mp P;have:=h.two X (List.mem_of_mem_take ho) (by omega) x1 y1 (aW.mp x2) (aW.mp y2);exact G (by rw[this];exact ho)
theorem JN{c:List Int}(Z:c.Pairwise (· <·))(Y:∀x∈c,0<=x/\x<n):lO n (λi=>(i:Int)) c=c:=
 rA (wo ..) Z λx=>by
  rw[dW];constructor
  ·rintro⟨i,rfl,_,h⟩;exact h
  ·intro h;have:=Y x h;obtain⟨i,rfl⟩:=Oo this.1;exact⟨i,rfl,by omega,h⟩
theorem JO{c:List Int}(Z:c.Pairwise (· <·))(Y:∀x∈c,0<=x/\x<n):c.length=sm n λi:Nat=>if bU (i:Int) c=b_ then 1 else 0:=by
 conv=>lhs;rw[<-JN Z Y]
 unfold lO;rw[NM];generalize n=m
 induction m with
 |zero=>rfl
 |succ m ih=>
  rw[jZ,List.range_succ,Qt,NP,ih,Qf];split<;>rfl
theorem Aj:∀{H:List (List Int)},(∀c∈H,c.Pairwise (· <·)/\∀x∈c,0<=x/\x<n)->(H.map B').sum=sm n λi:Nat=>bD H [(i:Int)]
 |[],_=>(uT n).symm
 |c::H,h=>by
  obtain⟨Y,Z⟩:=h c (.head _);rw[On,List.sum_cons,Aj λd hd=>h d (.tail _ hd),JO Y Z, <-EH];refine yc λi _=>?_;unfold bD;rw[Qf];by_cases z:bU (i:Int) c=b_
  ·rw[if_pos z,if_pos (by rw[t5, <-aW];exact z),Ou];omega
  ·rw[if_neg z,if_neg (by rw[t5, <-aW];exact z)];omega
theorem E9{f:Nat->Nat}{b:Nat}:∀{m:Nat},(∀i,i<m->f i<=b)->sm m f<=m*b
 |0,_=>Og _
 |m+1,h=>by
  rw[jZ,PM];have:=E9 (m:=m) λi Z=>h i (by omega);have:=h m (by omega);omega
theorem Ak{b:Nat}:∀{l:List (List Int)},(∀c∈l,b<=c.length)->l.length*b<=(l.map B').sum
 |[],_=>by simp
 |c::l,h=>by
  have:=Ak λd hd=>h d (.tail _ hd);have:=h c (.head _);rw[On,List.sum_cons,Ou,PM];omega
theorem gK(h:∀c∈T,CrowdOk n E c)(Y:∀i:Nat,i<n->bD T [(i:Int)]<=2):T.length<=n:=by have W:=Aj (n:=n) (H:=T) λc Z=>⟨(h c Z).ris,(h c Z).el⟩;have U:=E9 (f:=λi:Nat=>bD T [(i:Int)]) (b:=2) (m:=n) Y;have X:=Ak (b:=2) (l:=T) λc Z=>(h c Z).two;omega
end
def yu(S:List (List Int))(a:Int):List (List Int):=S.filter λc=>[a].all λx=>bU x c
def JP(S:List (List Int))(t:List Int):Bool:=match yu S (t.getD 0 0)with
 |[]=>c_
 |c::_=>bU (t.getD 1 0) c
def codeN(S:List (List Int)):List Bool:=(bB 7).map (JP S)
def Kc:Nat->List (List Bool)
 |0=>[[]]
 |k+1=>(Kc k).map (b_::·)++(Kc k).map (c_::·)
theorem Bw:∀k,(Kc k).length=2 ^ k
 |0=>rfl
 |k+1=>by
  unfold Kc;rw[NP,NM,NM,Bw k,Nat.pow_succ];omega
theorem wt:∀l:List Bool,l∈Kc l.length
 |[]=>.head _
 |true::l=>PD _ (NY.mpr ⟨l,wt l,rfl⟩)
 |false::l=>N9 _ (NY.mpr ⟨l,wt l,rfl⟩)
theorem yw{n:Nat}{a b:Int}(Z:0<=a)(Y:a<b)(X:b<n):[a,b]∈bB n:=by unfold bB;refine Oy.mpr ⟨a.toNat,N0.mpr (by omega),?_⟩;unfold lF;refine NY.mpr ⟨b.toNat,O2.mpr (by omega),?_⟩;rw[QZ Z,QZ (by omega)]
section
variable {n:Nat}{E:List (List Int)}
theorem wu{S:List (List Int)}(h:Shr n E S){c:List Int}(W:c∈S){a b:Int}(U:a∈c)(Y:b∈c)(Z:a≠b){F:List Int}{r:List (List Int)}(X:yu S a=F::r):JP S [a,b]=decide (F=c):=by
 have T:F∈yu S a:=by rw[X];exact .head _
 obtain⟨f1,f2⟩:=NU.mp T;have e:JP S [a,b]=bU b F:=by show(match yu S a with|[]=>c_|c::_=>bU b c)=_;rw[X]
 rw[e,O0,N8,aW];constructor
 ·exact λz=>h.two f1 W Z (t5.mp f2) z U Y
 ·rintro rfl;exact Y
theorem Bx(w:n<=7){Q R2:List (List Int)}(W:Shr n E Q)(U:Shr n E R2){c1 R:List Int}(T:c1∈Q)(G:R∈R2){a b q:Int}(N:a<b)(a1:a∈c1)(F:b∈c1)(I:a∈R)(A:b∈R)(P:q∈c1)(B:q∉R)(Y:a<q):codeN Q≠codeN R2:=λe=>by
 have e:=List.map_inj_left.mp e;have L:=(W.cr c1 T).el;have O:=L a a1;have v:=L b F;have eq:=L q P;have e1:=e _ (yw (n:=7) O.1 N (by omega));have e2:=e _ (yw (n:=7) O.1 Y (by omega));have J:=(W.cr c1 T).tied a a1 q P Y;rw[iG Y,N8]at J;obtain⟨d,hd,H,C⟩:=U.ex J;have X:d≠R:=λz=>B (by rw[<-z];exact C);have K:∀{S:List (List Int)} {c:List Int},c∈S->a∈c->c∈yu S a:=λW U=>NU.mpr ⟨W,t5.mpr U⟩;have k1:=K T a1;have k2:=K G I;have k3:=K hd H;obtain⟨k,x⟩:=Oo O.1;have Z:=U.pl k (by omega);rw[<-x]at Z;have Z:(yu R2 a).length<=2:=Z
 match l1:yu Q a,k1 with
 | F1::r1,_=>
  match l2:yu R2 a,k2,k3,Z with
  | F2::r2,k2,k3,Z=>
   rw[wu W T a1 F (by omega) l1,wu U G I A (by omega) l2]at e1;rw[wu W T a1 P (by omega) l1,wu U hd H C (by omega) l2,e1,Pg]at e2;rcases N6.mp k2 with z|z
   ·exact X ((e2.mp z.symm).symm.trans z.symm)
   ·rcases N6.mp k3 with y|y
    ·exact X (y.trans (e2.mpr y.symm))
    ·rw[Ou]at Z;exact X (Bt (by omega) y z)
theorem code_inj(X:n<=7)(w:WebOk n E):∀{f:Nat} {T R1 R2:List (List Int)},InvT n E T->R1∈tJ E n f T->R2∈tJ E n f T->codeN R1=codeN R2->R1=R2
 |0,T,R1,R2,_,h,_,_=>by cases h
 | f +1,T,R1,R2,hT,m1,m2,e=>by
  have s1:=nu X w hT m1;have s2:=nu X w hT m2;unfold tJ at m1 m2;split at m1
  ·next hf=>
   rw[hf]at m2;rw[NW.mp m1,NW.mp m2]
  ·next t r hf=>
   rw[hf]at m2;obtain⟨c1,K,S⟩:=Oy.mp m1;obtain⟨C,L,R⟩:=Oy.mp m2;obtain⟨B,g1⟩:=NU.mp K;obtain⟨A,g2⟩:=NU.mp L;obtain⟨u,O,t1⟩:=hT.step X w hf B g1;obtain⟨p,o2,t2⟩:=hT.step X w hf A g2;by_cases hcc:c1=C
   ·subst hcc;exact code_inj X w u S R e
   ·exfalso;obtain⟨m,N⟩:=o9 S;obtain⟨s,P⟩:=o9 R;have F:c1∈R1:=by rw[N];simp
    have I:C∈R2:=by rw[P];simp
    obtain⟨x,y,q,rfl,U,_⟩:=mO O w;obtain⟨G,H,o,rfl,J,_⟩:=mO o2 w;have Q:[x,y]=[G,H]:=(show[x,y]=t from t1).trans (show[G,H]=t from t2).symm;have ex:=(OJ Q).1;have v:=(OJ (OJ Q).2).1
    clear Q t1 t2
    subst ex;subst v;have min:∀{q z:_},(x::y::q).Pairwise (· <·)->z∈x::y::q->z≠x->x<z:=λ{q z} hr W Y=>(Oa.mp hr).1 z ((N6.mp W).resolve_left Y);refine hcc (rA O.ris o2.ris λz=>⟨λW=>Pb λZ=>?_,λW=>Pb λZ=>?_⟩)
    ·have Y:z≠x:=λk=>Z (by rw[k];exact .head _);exact Bx X s1 s2 F I U (.head _) (.tail _ (.head _)) (.head _) (.tail _ (.head _)) W Z (min O.ris W Y) e
    ·have Y:z≠x:=λk=>Z (by rw[k];exact .head _);exact Bx X s2 s1 I F U (.head _) (.tail _ (.head _)) (.head _) (.tail _ (.head _)) W Z (min o2.ris W Y) e.symm
theorem Hh(Z:n<=7)(w:WebOk n E){f:Nat}{T:List (List Int)}(Y:InvT n E T):(tJ E n f T).length<=2097152:=by
 have W:((tJ E n f T).map codeN).Nodup:=by rw[OT,Oz];exact Ox (λ{a b} ha hb hab e=>hab (code_inj Z w Y ha hb e)) (Ai Z)
 have:=mM (m:=Kc 21) W λl X=>by
  obtain⟨R,_,rfl⟩:=NY.mp X;have:(codeN R).length=21:=by
   unfold codeN;rw[NM]
   decide+kernel
  rw[<-this];exact wt _
 rw[NM,Bw]at this;exact this
end
theorem iH{t:fe}{m:cL}{ρ:aE}(h:t ρ=aC c_):jb t m dG ρ=aC (.nx ρ):=(b7 h).trans (if_neg (by decide))
section
variable {α:Type}{l:List α}{mk:α->D}{mi:aE->M Iter}{g:lR}{t:fe}{m:TM}{ρ:aE}{js:List (Option Nat)}
theorem Fb(f:α->Bool)(R:aE->Prop)(L:mi ρ=aC ⟨l.map mk,.none⟩)(S:l.length<=lim)(O:R (iK js ρ))(Q:∀a∈l,∀ ρ,R ρ->∃Z,g (mk a) ρ=aC Z/\R Z/\t Z=aC b_/\m Z=aC (.bl (f a))):
  bX xM (aL (a7 mi g t m js)) ρ=aC (.bl (l.any f)):=by
 have X:=kD (f:=λa=>D.bl (f a)) (js:=js) R (λ_=>b_) L S O (λa U ρ Y=>by obtain⟨Z,W,T,P,N⟩:=Q a U ρ Y;exact⟨Z,W,T,P,λ_=>N⟩) (by rw[bO];exact Ae f l)
 rw[bO]at X;refine(cU X).trans ?_;have e1:(l.map λa=>D.bl (f a))=(l.map f).map D.bl:=by rw[Od];rfl
 rw[e1,Eo,R0];rfl
end
section
variable {n:Nat}{E T:List (List Int)}
theorem M8{c:List Int}(S:T.length<=100)(U:c.length<=100):eV [.fz (T.map tupI),tupI c]=aC (.bl (CS T c)):=by
 have Z:bX xM (aL (a7 (bP (mV 1)) (gN 0) jk jl [none,ar 0])) [ar (.fz (T.map tupI)),ar (tupI c)]=aC (.bl (c.any λp=>decide (bD T [p]=2))):=
  Fb (l:=c) (mk:=D.int) (λp=>decide (bD T [p]=2)) (λρ=>∃x,ρ=[x,ar (.fz (T.map tupI))]) rfl (by unfold lim;omega) ⟨none,rfl⟩ λp hp ρ ⟨x,hρ⟩=>by subst hρ;refine⟨[ar (.int p),ar (.fz (T.map tupI))],rfl,⟨_,rfl⟩,rfl,?_⟩;have W:aL (ak aX (ae (mV 1) (ae (dz (ae (mV 0) aj)) aj))) [ar (.int p),ar (.fz (T.map tupI))]=aC (.int (bD T [p])):=d7 ((call2 rfl (y:=tupI [p]) (Hd rfl)).trans (td (by omega) (by show 1<=1000;decide)));refine(bo W (y:=.int 2) rfl).trans (CQ.trans ?_);exact P6 (λb:Bool=>(aC (D.bl b):M D)) (Pg.mpr (by omega))
 have Y:bX jI (aL (a7 (bP (mV 0)) (gN 0) jq jr [none,ar 1])) [ar (.fz (T.map tupI)),ar (tupI c)]=aC (.bl (T.all λo=>decide ((c.filter λp=>bU p o).length<2))):=
  gw (l:=T) (mk:=tupI) (λo=>decide ((c.filter λp=>bU p o).length<2)) (λρ=>∃x,ρ=[x,ar (tupI c)]) rfl (by unfold lim;omega) ⟨none,rfl⟩ λo ho ρ ⟨x,hρ⟩=>by
   subst hρ;refine⟨[ar (tupI o),ar (tupI c)],rfl,⟨_,rfl⟩,rfl,?_⟩;have X:=kD (l:=c) (mk:=D.int) (f:=D.int) (mi:=bP (mV 1)) (g:=gN 0) (t:=jm) (m:=jo) (js:=[none,ar 0]) (ρ:=[ar (tupI o),ar (tupI c)]) (λρ=>∃x,ρ=[x,ar (tupI o)]) (λp=>bU p o) rfl (by unfold lim;omega) ⟨none,rfl⟩ (λp hp ρ ⟨x,hρ⟩=>by subst hρ;exact⟨[ar (.int p),ar (tupI o)],rfl,⟨_,rfl⟩,bA (x:=.int p) (y:=tupI o) rfl rfl qS,λ_=>rfl⟩) (JL id _)
   refine(bo ((sY X).trans (by rw[NM])) (y:=.int 2) rfl).trans ?_;show aC (D.bl (decide (((c.filter λp=>bU p o).length:Int)<2)))=_;exact P6 (λb:Bool=>(aC (D.bl b):M D)) (Pg.mpr (by omega))
 refine cQ (o:=.ret (.bl (CS T c))) ?_ rfl;unfold CS;show jO [ar (.fz (T.map tupI)),ar (tupI c)]=_;unfold jO;generalize (c.any λp=>decide (bD T [p]=2))=b at Z;cases b with
 |true=>exact fG ((b7 (e9 Z)).trans ((if_pos rfl).trans (bS rfl)))
 |false=>exact(aI (iH (e9 Z))).trans (bS Y)
abbrev cV(T:List (List Int)):D:=.fz (T.map tupI)
theorem JQ(T:List (List Int)):gF 0 (cV T)=true:=by show df 0 (T.map tupI)=b_;exact bt T
theorem rB:∀L:List (List (List Int)),df 0 (L.map cV)=b_
 |[]=>rfl
 |T::L=>by
  show(gF 0 (cV T) && df 0 (L.map cV))=b_;rw[JQ,rB L];rfl
theorem Hi{S:aK}{xs ys:List D}(Z:xs.length+ys.length<=lim):fK (.lst S.length) [.fz ys] (S++[xs])=ar (.ok .non,S++[xs++ys]):=by show(getL S.length>>=λxs=>nL S.length (xs++ys)) (S++[xs])=_;rw[aR (gT (d4 (S:=S) (xs:=xs))),m9 (by rw[NP];exact Z) (by simp)];rw[P5 _ _ (NQ _),Ql];rfl
theorem JR(Y:n<=7)(w:WebOk n E)(Z:T.length<=100){F:List D->M D}{x2 x3 x4:Option D}:aL (a7 (bP (aU b9 (mV 0) (mK (.int 1)))) (gN 0) (fZ F) (f7 F) [none,ar 1]) [ar (aw n E),ar (cV T),x2,x3,x4]=aC (.fz ((hV E T).map tupI)):=
 kD (l:=E) (mk:=tupI) (f:=tupI) (λρ=>∃x,ρ=[x,ar (cV T)]) (λt=>decide (bD T t=0)) rfl (by have:=w.few;unfold lim;omega) ⟨none,rfl⟩ (λt ht ρ ⟨x,hρ⟩=>by subst hρ;obtain⟨a,b,rfl,_⟩:=w.el t ht;refine⟨[ar (tupI [a,b]),ar (cV T)],rfl,⟨_,rfl⟩,?_,λ_=>rfl⟩;refine bA (d7 ((call2 rfl rfl).trans (td (s:=[a,b]) (by omega) (by show 2<=1000;decide)))) (y:=.int 0) rfl (CQ.trans ?_);exact P6 (λb:Bool=>(aC (D.bl b):M D)) (Pg.mpr (by omega))) (bt _)
theorem LC{α:Type}{mk:α->D}{f:α->List D}{g:lR}{b:cL}{its:List D}{S:aK}(R:aE->Prop):∀(l:List α) (xs:List D) (ρ:aE),R ρ->xs.length+(l.flatMap f).length<=lim->
  (∀a∈l,∀ ρ xs,R ρ->xs.length+(f a).length<=lim->∃Y Z,g (mk a) ρ=aC Y/\R Z/\b Y (S++[xs])=ar (.ok (.nx Z),S++[xs++f a]))->
  ∃ ρ',R ρ'/\gz ⟨its,.none⟩ g b (l.map mk) ρ (S++[xs])=ar (.ok (.nx ρ'),S++[xs++l.flatMap f])
 |[],xs,ρ,hR,_,_=>⟨ρ,hR,by rw[Pl,lE,Rt,Oi];rfl⟩
 |a::l,xs,ρ,hR,hl,h=>by
  rw[O4,NP]at hl;obtain⟨Y,Z,e1,W,e2⟩:=h a (.head _) ρ xs hR (by omega);obtain⟨ρ',Q,U⟩:=LC R l (xs++f a) Z W (by rw[NP];omega) λx X=>h x (.tail _ X);refine⟨ρ',Q,?_⟩;rw[On,sL e1 e2,U,O4,OF]
theorem By{α Z:Type}(q:α->Bool)(f:α->List Z):∀l:List α,(l.flatMap λa=>if q a=b_ then f a else [])=(l.filter q).flatMap f
 |[]=>rfl
 |a::l=>by
  rw[O4,By q f l,Qf];split<;>rfl
theorem LD(W:n<=7)(w:WebOk n E):∀(f:Nat) (T:List (List Int)),InvT n E T->8<=f+T.length->iF (cc f [aw n E,cV T])=aC (.fz ((tJ E n f T).map cV))
 |0,T,hT,hf=>by have:=gK hT.cr λi _=>hT.pl i;omega
 | f + 1,T,hT,hf=>by
  have H:=gK hT.cr λi _=>hT.pl i;have hlen:=Hh W w (f:=f+1) hT;have Z:=JR (T:=T) W w (by omega) (F:=cc f) (x2:=none) (x3:=none) (x4:=none);have AM:tJ E n (f+1) T=match hV E T with
   |[]=>[T]
   |t::_=>((wg E n 9 t (t.getD 1 0).toNat).filter (CS T)).flatMap λc=>tJ E n f (T++[c]):=rfl
  funext S
  match hF:hV E T with
  |[]=>
   rw[hF]at AM Z;dsimp only at AM;rw[AM];refine Oh (HF (v:=.fz ([T].map cV)) (rB _) λS=>⟨.fz ([T].map cV),S,fy (o:=.ret (.fz ([T].map cV))) (Oh ((aI (cZ Z)).trans (fG ((b7 (b:=b_) (not_eq (b:=c_) rfl)).trans ((if_pos rfl).trans (bS ?_))))) S) rfl,rfl,[],by rw[Oi]⟩) S;exact things (us:=[T].map cV) (bq rfl (es:=aj) rfl) (rB _) (by show 1<=50;decide)
  | t ::r=>
   rw[hF]at AM Z;dsimp only at AM;have P:=(hX.mp (show t∈hV E T by rw[hF];exact .head _)).1;obtain⟨a,l,rfl,N,A,X,O⟩:=wq W w P;rw[X]at AM;have K:aL (ak dO (ae (mV 0) (ae (aU b9 (mV 2) (mK (.int 0))) aj))) [ar (aw n E),ar (cV T),ar (.fz ((([a]++[(l:Int)])::r).map tupI)),ar (.lst S.length),none]=aC (.fz ((wg E n 9 ([a]++[(l:Int)]) l).map tupI)):=by
    unfold aL;have L:aU b9 (mV 2) (mK (.int 0)) [ar (aw n E),ar (cV T),ar (.fz ((([a]++[(l:Int)])::r).map tupI)),ar (.lst S.length),none]=aC (tupI ([a]++[(l:Int)])):=by refine(bo (x:=.fz ((([a]++[(l:Int)])::r).map tupI)) (y:=.int 0) rfl rfl).trans ?_;show(match kJ (tupI ([a]++[(l:Int)])::r.map tupI) 0 with|some d=>(aC d:M D)|none=>M.fail)=_;rw[show kJ (tupI ([a]++[(l:Int)])::r.map tupI) 0=ar (tupI ([a]++[(l:Int)])) by unfold kJ yM;simp]
    rw[call2 (x:=aw n E) rfl L];exact LB W w 9 l [a] (by omega) N
   have C:bP (aL (ak dO (ae (mV 0) (ae (aU b9 (mV 2) (mK (.int 0))) aj)))) [ar (aw n E),ar (cV T),ar (.fz ((([a]++[(l:Int)])::r).map tupI)),ar (.lst S.length),none]=aC ⟨(wg E n 9 ([a]++[(l:Int)]) l).map tupI,.none⟩:=by unfold bP;rw[K,aq];rfl
   have R:((wg E n 9 ([a]++[(l:Int)]) l).flatMap λc=>(if CS T c=b_ then tJ E n f (T++[c])else []).map cV)=(tJ E n (f+1) T).map cV:=by rw[AM, <-By,QK]
   obtain⟨ρ',⟨x4,rfl⟩,Y⟩:=LC (mk:=tupI) (f:=λc=>(if CS T c=b_ then tJ E n f (T++[c])else []).map cV) (g:=gN 4) (b:=eB (cc f)) (its:=(wg E n 9 ([a]++[(l:Int)]) l).map tupI) (S:=S)
    (λρ=>∃x,ρ=[ar (aw n E),ar (cV T),ar (.fz ((([a]++[(l:Int)])::r).map tupI)),ar (.lst S.length),x]) (wg E n 9 ([a]++[(l:Int)]) l) [] [ar (aw n E),ar (cV T),ar (.fz ((([a]++[(l:Int)])::r).map tupI)),ar (.lst S.length),none] ⟨none,rfl⟩
    (by rw[R,NM];show 0+_<=lim;unfold lim;omega)
    (λc hc ρ xs ⟨x,hρ⟩ hxs=>by
     subst hρ;refine⟨[ar (aw n E),ar (cV T),ar (.fz ((([a]++[(l:Int)])::r).map tupI)),ar (.lst S.length),ar (tupI c)],_,rfl,⟨ar (tupI c),rfl⟩,?_⟩;have G:=((O c).mp (by rw[X];exact hc)).1.len;unfold eB;have B:bV (aL (ak eV (ae (mV 1) (ae (mV 4) aj)))) [ar (aw n E),ar (cV T),ar (.fz ((([a]++[(l:Int)])::r).map tupI)),ar (.lst S.length),ar (tupI c)]=aC (CS T c):=e9 (d7 ((call2 rfl rfl).trans (M8 (by omega) (by omega))));refine(Oh (b7 B) _).trans ?_;by_cases q:CS T c=b_
     ·rw[if_pos q]at hxs⊢;rw[if_pos q];have Q:=(hT.step W w hF (by rw[X];exact hc) q).1;have J:aL (aU cW (mV 1) (aL (cX (ae (mV 4) aj)))) [ar (aw n E),ar (cV T),ar (.fz ((([a]++[(l:Int)])::r).map tupI)),ar (.lst S.length),ar (tupI c)]=aC (cV (T++[c])):=by
       have I:aL (cX (ae (mV 4) aj)) [ar (aw n E),ar (cV T),ar (.fz ((([a]++[(l:Int)])::r).map tupI)),ar (.lst S.length),ar (tupI c)]=aC (cV [c]):=things (us:=[c].map tupI) (bq rfl (es:=aj) rfl) (bt [c]) (by show 1<=50;decide);unfold aL at I⊢;show iF (aU cW _ _ _)=_;rw[bo (x:=cV T) rfl I];show iF (bQ (T.map tupI++[c].map tupI))=_;rw[<-OG];exact cw (bt _) (by rw[NM,NP];show _+1<=lim;unfold lim;omega)
      have U:aL (ak (cc f) (ae (mV 0) (ae (aL (aU cW (mV 1) (aL (cX (ae (mV 4) aj))))) aj))) [ar (aw n E),ar (cV T),ar (.fz ((([a]++[(l:Int)])::r).map tupI)),ar (.lst S.length),ar (tupI c)]=aC (.fz ((tJ E n f (T++[c])).map cV)):=by unfold aL at J⊢;show iF (ak _ _ _)=_;rw[call2 (x:=aw n E) rfl J];exact LD W w f (T++[c]) Q (by rw[NP];show 8<=f+(_+1);omega)
      refine uM (x:=.non) ((Oh (HH (f:=fK) (e1:=mV 3) (x:=.lst S.length) rfl rfl U) _).trans ?_);rw[aq];exact Hi hxs
     ·rw[if_neg q,if_neg q,Pl,Oi];rfl)
   rw[R,List.nil_append]at Y;refine Bi ?_ (rB _);show j9 5 2 (eI (cc f)) [aw n E,cV T] S=_;refine fy (o:=.ret (.lst S.length)) ?_ rfl;unfold eI;refine(Oh (aI (cZ Z)) S).trans ((Oh (aI (iH (not_eq (b:=b_) rfl))) S).trans ((aZ (cg (pZ (ys:=[]) rfl (Og _)))).trans ((aZ (pY C Y)).trans ?_)));exact gr (x:=.lst S.length) rfl
def mP(n:Nat)(E:List (List Int)):List (List (List Int)):=tJ E n 9 []
theorem tq(Z:n<=7)(w:WebOk n E):bh [aw n E]=aC (.fz ((mP n E).map cV)):=by
 have Y:aL (ak fQ (ae (mV 0) (ae (aL (cX aj)) aj))) [ar (aw n E)]=aC (.fz ((mP n E).map cV)):=by have h0:aL (cX aj) [ar (aw n E)]=aC (cV []):=things (us:=[]) (es:=aj) rfl rfl (Og _);unfold aL at h0⊢;show iF (ak _ _ _)=_;rw[call2 (x:=aw n E) rfl h0];exact LD Z w 9 [] .nil (by decide)
 unfold bh jA;exact eZ (o:=.ret (.fz ((mP n E).map cV))) ((aI (hU (d7 ((cz rfl).trans (we Z w))))).trans (bS Y)) rfl
theorem jE(Z:n<=7)(w:WebOk n E):T∈mP n E↔Shr n E T:=
 ⟨nu Z w .nil,λh=>by have:=gK h.cr h.pl;exact yt Z w h 9 0 (Og _) (by omega)⟩
end
def eJ(n:Nat)(T:List (List Int))(k:Nat):List Int:=((dq n).filter λi:Nat=>decide (bD T [(i:Int)]=k)).map λi:Nat=>(i:Int)
def qU(n:Nat)(T:List (List Int)):List Int:=eJ n T 1++sortI (eJ n T 0++eJ n T 0)
def aD(n:Nat)(T:List (List Int)):List (List Int):=T++(qU n T).map λp=>[p]
def b8(n:Nat)(H:List (List Int)):List (List Int):=(dq n).map λi:Nat=>cF H (i:Int)
theorem rC{n k:Nat}{T:List (List Int)}{x:Int}:x∈eJ n T k↔∃i:Nat,x=(i:Int)/\i<n/\bD T [(i:Int)]=k:=by
 unfold eJ;constructor
 ·intro h;obtain⟨i,X,rfl⟩:=NY.mp h;obtain⟨Z,Y⟩:=NU.mp X;exact⟨i,rfl,N0.mp Z,OE Y⟩
 ·rintro⟨i,rfl,Z,Y⟩;exact NY.mpr ⟨i,NU.mpr ⟨N0.mpr Z,N1 Y⟩,rfl⟩
theorem JS(n k:Nat)(T:List (List Int)):(eJ n T k).Nodup:=by unfold eJ;rw[OT,Oz];exact(OK _ Qd).imp λh e=>h (by omega)
theorem Bz{n k i:Nat}{T:List (List Int)}(Y:i<n):(eJ n T k).count (i:Int)=if bD T [(i:Int)]=k then 1 else 0:=by
 split
 ·next h=>
  have:=List.nodup_iff_count.mp (JS n k T) (i:Int);have:=List.count_pos_iff.mpr (rC.mpr ⟨i,rfl,Y,h⟩);omega
 ·next h=>
  refine List.count_eq_zero_of_not_mem λz=>?_;obtain⟨j,e,_,Z⟩:=rC.mp z;exact h (by rw[show i=j by omega];exact Z)
theorem uY(x:Int):∀L:List Int,bD (L.map λp=>[p]) [x]=L.count x
 |[]=>rfl
 | p::L=>by
  have Z:=uY x L;unfold bD at Z⊢;rw[On,Qf,List.count_cons];by_cases e:p=x
  ·subst e;rw[if_pos (by exact t5.mpr (.head _)),Ou,Z];simp
  ·rw[if_neg (by rw[t5];simpa using λz=>e z.symm),Z];simp[e]
section
variable {n:Nat}{E T:List (List Int)}
theorem Fc{i:Nat}(Z:i<n):(qU n T).count (i:Int)=(if bD T [(i:Int)]=1 then 1 else 0)+2*(if bD T [(i:Int)]=0 then 1 else 0):=by unfold qU;rw[List.count_append,(sortI_perm _).count_eq,List.count_append,Bz Z,Bz Z];omega
theorem Hj{x:Int}(h:x∈qU n T):0<=x/\x<n:=by
 unfold qU at h;rcases OB.mp h with h|h
 ·obtain⟨i,rfl,Z,_⟩:=rC.mp h;omega
 ·have h:=(sortI_perm _).mem_iff.mp h;rcases OB.mp h with h|h<;>(obtain⟨i,rfl,Z,_⟩:=rC.mp h;omega)
theorem tu(h:Shr n E T){i:Nat}(Z:i<n):bD (aD n T) [(i:Int)]=2:=by unfold aD;rw[uX,uY,Fc Z];have:=h.pl i Z;split<;>split<;>omega
theorem pf(h:Shr n E T){c:List Int}(Z:c∈aD n T):c.Pairwise (· <·)/\(∀x∈c,0<=x/\x<n)/\1<=c.length:=by
 unfold aD at Z;rcases OB.mp Z with Z|Z
 ·have:=h.cr c Z;exact⟨this.ris,this.el,by have:=this.two;omega⟩
 ·obtain⟨p,Y,rfl⟩:=NY.mp Z;exact⟨OH _ _,λx X=>by rw[NW.mp X];exact Hj Y,NQ _⟩
theorem ph(h:Shr n E T):(aD n T).length<=2*n:=by
 have W:=Aj (n:=n) (H:=aD n T) λc Z=>⟨(pf h Z).1,(pf h Z).2.1⟩;have U:=E9 (f:=λi:Nat=>bD (aD n T) [(i:Int)]) (b:=2) (m:=n) λi Y=>by rw[tu h Y];exact NQ _
 have X:=Ak (b:=1) (l:=aD n T) λc Z=>(pf h Z).2.2;omega
theorem nV(h:Shr n E T){k:Nat}{x y:Int}(W:k<(aD n T).length)(X:x∈(aD n T).getD k [])(U:y∈(aD n T).getD k [])(Z:x≠y):k<T.length/\(aD n T).getD k []=T.getD k []/\T.getD k []∈T:=by
 by_cases hT:k<T.length
 ·have e:(aD n T).getD k []=T.getD k []:=by
   unfold aD;rw[NS,Os hT, <-NS]
  exact⟨hT,e,getD_in hT⟩
 ·exfalso;have hm:(aD n T).getD k []∈(qU n T).map λp=>[p]:=by
   have Y:k - T.length<((qU n T).map λp:Int=>[p]).length:=by unfold aD at W;rw[NP]at W;omega
   have:(aD n T).getD k []=((qU n T).map λp:Int=>[p]).getD (k - T.length) []:=by unfold aD;rw[NS,O9 (by omega), <-NS]
   rw[this];exact getD_in Y
  obtain⟨p,_,e⟩:=NY.mp hm;rw[<-e]at X U;exact Z (by rw[NW.mp X,NW.mp U])
theorem yx(H:List (List Int))(x:Int):(cF H x).length=bD H [x]:=by unfold cF bD;rw[NM];have:=G7 (λc=>bU x c) H;rw[QP,QP]at this;rw[<-this];congr 2;funext c;rw[QN,R4,RF]
theorem uZ(h:Shr n E T){i j:Nat}(P:i<n)(Q:j<n)(Z:i≠j):(∃p:Int,p∈cF (aD n T) (i:Int)/\p∈cF (aD n T) (j:Int))↔tB E (i:Int) (j:Int)=true:=by
 constructor
 ·rintro⟨p,h1,h2⟩;obtain⟨k,rfl,W,a1⟩:=fH.mp h1;obtain⟨R,e,_,a2⟩:=fH.mp h2;rw[<-show k=R by omega]at a2;have a1:=aW.mp a1;have a2:=aW.mp a2;obtain⟨_,e,hm⟩:=nV h W a1 a2 (by omega);rw[e]at a1 a2;rcases Q7 Z with z|z
  ·exact(h.cr _ hm).tied _ a1 _ a2 (by omega)
  ·rw[gW];exact(h.cr _ hm).tied _ a2 _ a1 (by omega)
 ·intro X;obtain⟨c,U,c1,S⟩:∃c∈T,(i:Int)∈c/\(j:Int)∈c:=by
   rcases Q7 Z with z|z
   ·rw[iG (by omega),N8]at X;exact h.ex X
   ·rw[gW,iG (by omega),N8]at X;obtain⟨c,U,a,b⟩:=h.ex X;exact⟨c,U,b,a⟩
  obtain⟨k,W,e⟩:=Ph.mp U;have Y:k<(aD n T).length:=by unfold aD;rw[NP];omega
  have e2:(aD n T).getD k []=c:=by unfold aD;rw[NS,Os W,NR W,e];rfl
  exact⟨k,fH.mpr ⟨k,rfl,Y,by rw[e2];exact aW.mpr c1⟩,fH.mpr ⟨k,rfl,Y,by rw[e2];exact aW.mpr S⟩⟩
theorem tw(h:Shr n E T){i:Nat}(X:i<n):∃k l:Nat,cF (aD n T) (i:Int)=[(k:Int),(l:Int)]/\k<l/\l<(aD n T).length:=by
 have Y:(cF (aD n T) (i:Int)).length=2:=by rw[yx,tu h X]
 have Z:=yj (E:=aD n T) (i:Int)
 match hs:cF (aD n T) (i:Int),Y,Z with
 |[x,y],_,Z=>
  obtain⟨k,rfl,W,_⟩:=fH.mp (show x∈cF (aD n T) (i:Int) by rw[hs];exact .head _);obtain⟨l,rfl,Y,_⟩:=fH.mp (show y∈cF (aD n T) (i:Int) by rw[hs];exact .tail _ (.head _));have:(k:Int)<l:=(Oa.mp Z).1 _ (.head _);exact⟨k,l,rfl,by omega,Y⟩
theorem Fd(h:Shr n E T){i j:Nat}(I:i<n)(G:j<n)(e:cF (aD n T) (i:Int)=cF (aD n T) (j:Int)):i=j:=by
 refine Pb λK=>?_;obtain⟨k,l,S,X,H⟩:=tw h I;have key:∀p:Nat,(p:Int)∈cF (aD n T) (i:Int)->p<(aD n T).length/\(i:Int)∈(aD n T).getD p []/\(j:Int)∈(aD n T).getD p []:=λp W=>by obtain⟨O,e1,Z,a1⟩:=fH.mp W;rw[e]at W;obtain⟨J,e2,_,a2⟩:=fH.mp W;rw[<-show p=O by omega]at a1 Z;rw[<-show p=J by omega]at a2;exact⟨Z,aW.mp a1,aW.mp a2⟩
 obtain⟨k1,k2,k3⟩:=key k (by rw[S];exact .head _);obtain⟨P,U,Y⟩:=key l (by rw[S];exact .tail _ (.head _));obtain⟨Q,N,L⟩:=nV h k1 k2 k3 (by omega);obtain⟨R,le,lm⟩:=nV h P U Y (by omega);rw[N]at k2 k3;rw[le]at U Y;have:=h.two L lm (show(i:Int)≠j by omega) k2 k3 U Y;rw[jD Q,jD R]at this;have:=PB.mp (lG h.ris) k l Q R X
 contradiction
theorem JT(h:Shr n E T):(b8 n (aD n T)).Nodup:=by unfold b8;rw[OT,Oz];exact Ox (λ{a b} ha hb hab e=>hab (Fd h (N0.mp ha) (N0.mp hb) e)) Qd
theorem iS(H:List (List Int)):(b8 n H).length=n:=by unfold b8;rw[NM,Oc]
theorem pj{H:List (List Int)}{i:Nat}(Z:i<n):(b8 n H).getD i []=cF H (i:Int):=by unfold b8;rw[jD (by rw[NM,Oc];exact Z),Qb,List.getElem_range]
theorem wx(W:n<=7)(h:Shr n E T):WebOk (aD n T).length (bc (b8 n (aD n T))):=by
 refine⟨λt Z=>?_,z9 (JT h),?_⟩
 ·have Z:=(bx _).mem_iff.mp Z;unfold b8 at Z;obtain⟨i,Y,rfl⟩:=NY.mp Z;obtain⟨k,l,e,X,U⟩:=tw h (N0.mp Y);exact⟨k,l,e,by omega,by omega,by omega⟩
 ·rw[(bx _).length_eq,iS];omega
theorem Fe(C:n<=7)(h:Shr n E T):∃z:List Int,Part n (c8 (bc (b8 n (aD n T)))) E z/\z.length=n:=by
 have P:=wx C h;have O:=bx (b8 n (aD n T));have J:(bc (b8 n (aD n T))).length=n:=by rw[O.length_eq,iS]
 have I:(bc (b8 n (aD n T))).Nodup:=Ab P;generalize bc (b8 n (aD n T))=R at P O J I;have Z:∀t∈R,(b8 n (aD n T)).idxOf t<n/\cF (aD n T) (((b8 n (aD n T)).idxOf t:Nat):Int)=t:=λt S=>by have X:=QY (O.mem_iff.mp S);have W:=X;rw[iS]at W;exact⟨W,by rw[<-pj W,jD X];exact List.getElem_idxOf X⟩
 refine⟨R.map λt=>(((b8 n (aD n T)).idxOf t:Nat):Int),⟨?_,λx G=>?_,λj Q i B=>?_⟩,by rw[NM,J]⟩
 ·rw[OT,Oz];refine Ox (λ{s t} hs S U e=>U ?_) I;rw[<-(Z s hs).2, <-(Z t S).2,e]
 ·obtain⟨t,S,rfl⟩:=NY.mp G;have:=(Z t S).1;omega
 ·rw[NM]at Q;have Y:i<R.length:=by omega
  have H:=getD_in (E:=R) Y;have F:=getD_in (E:=R) Q;have L:=Z _ H;have N:=Z _ F;have y:∀a,a<R.length->(R.map λt=>(((b8 n (aD n T)).idxOf t:Nat):Int)).getD a 0=(((b8 n (aD n T)).idxOf (R.getD a []):Nat):Int):=λa K=>by rw[getD_at (by rw[NM];exact K),Qb,jD K]
  have U:(b8 n (aD n T)).idxOf (R.getD i [])≠(b8 n (aD n T)).idxOf (R.getD j []):=λe=>by
   have e:R.getD i []=R.getD j []:=by rw[<-L.2, <-N.2,e]
   have:=getD_inj P Y Q e;omega
  rw[y i Y,y j Q,O0,G8 P Y Q (by omega), <-uZ h L.1 N.1 U,L.2,N.2];exact⟨λ⟨p,X,W⟩=>⟨p,aW.mp X,aW.mp W⟩,λ⟨p,X,W⟩=>⟨p,aW.mpr X,aW.mpr W⟩⟩
theorem CF(h:Shr n E T):((dq (aD n T).length).map λk:Nat=>cF (b8 n (aD n T)) (k:Int))=aD n T:=by
 refine Qe (by rw[NM,Oc]) λk X Z=>?_;rw[Qb,List.getElem_range];have hm:=pf h (Pf Z);refine rA (yj _) hm.1 λx=>?_;rw[fH,iS];constructor
 ·rintro⟨i,rfl,hi,hk⟩;rw[pj hi,yi Z,aW,jD Z]at hk;exact hk
 ·intro Y;have:=hm.2.1 x Y;obtain⟨i,rfl⟩:=Oo this.1;exact⟨i,rfl,by omega,by rw[pj (by omega),yi Z,aW,jD Z];exact Y⟩
theorem Al(h:Shr n E T):bc ((aD n T).filter λc=>decide (2<=c.length))=T:=by
 have e:((aD n T).filter λc=>decide (2<=c.length))=T:=by unfold aD;rw[Qt,List.filter_eq_self (p:=λc:List Int=>decide (2<=c.length)).mpr λc Z=>N1 (h.cr c Z).two,QA.mpr λc Z=>?_,Oi];obtain⟨p,_,rfl⟩:=NY.mp Z;exact(by decide:¬ (decide (2<=1)=b_))
 rw[e];exact uP h.ris
end
theorem enum_rows(H:List (List Int)):mr (H.map tupI)=(dq H.length).map λi:Nat=>D.tup [.int (i:Int),tupI (H.getD i [])]:=by
 unfold mr;refine Qe (by simp) λi X Y=>?_;have Z:i<H.length:=by simpa using Y
 simp[hY,Z]
theorem JU{ρ:aE}{e1 e2:TM}{x y:D}(Z:e1 ρ=aC x)(Y:e2 ρ=aC y):dz (ae e1 (ae e2 aj)) ρ=aC (.tup [x,y]):=by show(ae _ _ _>>=bw)=_;rw[bq Z (bq Y (es:=aj) rfl),aq];unfold bw;exact if_pos o6
theorem LF{e:TM}{ρ ρ':aE}{x:D}{g:lR}(Y:e ρ=aC x)(Z:g x ρ=aC ρ'):qW e g ρ=aC (.nx ρ'):=by unfold qW;rw[Y,aq,Z];rfl
theorem JV{e1 e2:TM}{ρ:aE}{us vs:List D}(Y:e1 ρ=aC (.fz us))(X:e2 ρ=aC (.fz vs))(Z:df 0 (us++vs)=b_)(W:us.length+vs.length<=1000):aL (aU cW e1 e2) ρ=aC (.fz (us++vs)):=by unfold aL;rw[bo Y X];exact cw Z (by rw[NP];unfold lim;omega)
theorem Ff{i:Nat}{e:TM}{ρ:aE}{x:D}(h:e ρ=aC x):Jp (cb i e) ρ=aC (.nx (ρ.set i (ar x))):=by unfold Jp;rw[cZ h];rfl
section
variable {n:Nat}{E T:List (List Int)}
theorem BA(n k:Nat)(T:List (List Int)):(eJ n T k).length<=n:=by unfold eJ;rw[NM];exact NZ (Om _ _) (by rw[Oc];exact NQ _)
theorem HL{k:Nat}{t:fe}{m:TM}{r:List (Option D)}(W:n<=100)(X:T.length<=100)(Y:t=d5 kH (aL (ak aX (ae (mV 1) (ae (dz (ae (mV 0) aj)) aj)))) (mK (.int k)))(Z:m=mV 0):aL (a7 (n5 (mV 0)) (gN 0) t m [none,ar 1]) (ar (.int n)::ar (cV T)::r)=aC (.fz ((eJ n T k).map D.int)):=by
 subst Y Z;have h:=kD (l:=dq n) (mk:=λi:Nat=>D.int (i:Int)) (f:=λi:Nat=>D.int (i:Int)) (mi:=n5 (mV 0)) (g:=gN 0) (t:=d5 kH (aL (ak aX (ae (mV 1) (ae (dz (ae (mV 0) aj)) aj)))) (mK (.int k))) (m:=mV 0) (js:=[none,ar 1]) (ρ:=ar (.int n)::ar (cV T)::r) (λρ=>∃x,ρ=[x,ar (cV T)]) (λi=>decide (bD T [(i:Int)]=k)) (v9 rfl (by omega)) (by rw[Oc];unfold lim;omega) ⟨none,rfl⟩ (λi hi ρ ⟨x,hρ⟩=>by
  subst hρ;refine⟨[ar (.int i),ar (cV T)],rfl,⟨_,rfl⟩,?_,λ_=>rfl⟩;refine bA (d7 ((call2 rfl (y:=tupI [(i:Int)]) (Hd rfl)).trans (td (by omega) (by show 1<=1000;decide)))) (y:=.int k) rfl (CQ.trans ?_);exact P6 (λb:Bool=>(aC (D.bl b):M D)) (Pg.mpr (by omega))) (by have:=gU (eJ n T k);unfold eJ at this;rw[Od]at this;exact this)
 rw[h];unfold eJ;rw[Od];rfl
theorem JW(P:n<=7)(Q:T.length<=7):iM [.int n,cV T]=aC (cV (aD n T)):=by
 refine cQ (o:=.ret (cV (aD n T))) ?_ rfl;show iL [ar (.int n),ar (cV T),none,none]=_;unfold iL;have O:=BA n 1 T;have R:=BA n 0 T;have a1:=HL (n:=n) (T:=T) (k:=1) (t:=ig) (m:=ij) (r:=[none,none]) (by omega) (by omega) rfl rfl;have S:=HL (n:=n) (T:=T) (k:=0) (t:=ik) (m:=il) (r:=[ar (.fz ((eJ n T 1).map D.int)),none]) (by omega) (by omega) rfl rfl;refine(aI (cZ a1)).trans ((aI (cZ S)).trans (bS ?_));have Y:aD n T=T++(eJ n T 1++sortI (eJ n T 0++eJ n T 0)).map λp=>[p]:=rfl;generalize eJ n T 1=A at*;have X:aL (aU cW (mV 3) (mV 3)) [ar (.int n),ar (cV T),ar (.fz (A.map D.int)),ar (.fz ((eJ n T 0).map D.int))]=aC (.fz ((eJ n T 0++eJ n T 0).map D.int)):=by rw[OG];exact JV rfl rfl (by rw[<-OG];exact gU _) (by rw[NM];omega)
 have d1:=qh X (by rw[NP];omega);have ls:(sortI (eJ n T 0++eJ n T 0)).length<=14:=by rw[(sortI_perm _).length_eq,NP];omega
 have U:aL (aU cW (mV 2) (aL (bX bG (aL (aU cW (mV 3) (mV 3)))))) [ar (.int n),ar (cV T),ar (.fz (A.map D.int)),ar (.fz ((eJ n T 0).map D.int))]=aC (.fz ((A++sortI (eJ n T 0++eJ n T 0)).map D.int)):=by rw[OG];exact JV rfl d1 (by rw[<-OG];exact gU _) (by rw[NM,NM];omega)
 have W:((A++sortI (eJ n T 0++eJ n T 0)).map λp:Int=>[p]).length<=21:=by rw[NM,NP];omega
 have Z:=kD (l:=A++sortI (eJ n T 0++eJ n T 0)) (mk:=D.int) (f:=λp=>tupI [p]) (mi:=bP (aL (aU cW (mV 2) (aL (bX bG (aL (aU cW (mV 3) (mV 3)))))))) (g:=gN 0) (t:=ip) (m:=iq) (js:=[none]) (ρ:=[ar (.int n),ar (cV T),ar (.fz (A.map D.int)),ar (.fz ((eJ n T 0).map D.int))]) (λρ=>∃x,ρ=[x]) (λ_=>b_) (by
  unfold bP;rw[U,aq];rfl) (by rw[NP];unfold lim;omega) ⟨none,rfl⟩ (λp hp ρ ⟨x,hρ⟩=>by
  subst hρ;exact⟨[ar (.int p)],rfl,⟨_,rfl⟩,rfl,λ_=>Hd rfl⟩) (by rw[bO];have:=bt ((A++sortI (eJ n T 0++eJ n T 0)).map λp=>[p]);rw[Od]at this;exact this)
 rw[bO]at Z;have Z:=Z.trans (show _=aC (.fz (((A++sortI (eJ n T 0++eJ n T 0)).map λp=>[p]).map tupI)) by rw[Od];rfl);generalize (A++sortI (eJ n T 0++eJ n T 0)).map (λp:Int=>[p])=B at Z Y W;rw[Y,show cV (T++B)= .fz (T.map tupI++B.map tupI) by unfold cV;rw[OG]];exact JV rfl Z (by rw[<-OG];exact bt _) (by rw[NM,NM];omega)
theorem Fg(Z:n<=7)(w:WebOk n E)(h:Shr n E T):eA [aw n E,cV T]=aC (.bl b_):=by have Y:=gK h.cr h.pl;exact CB Z w (by omega) h.ris (λs hs=>by have:=(h.cr s hs).cr.len;omega) h.cr h.tie h.pl
def jK(n:Nat)(T:List (List Int)):D:=.tup [aw (aD n T).length (bc (b8 n (aD n T))),.tup ((b8 n (aD n T)).map tupI)]
theorem Hk(H:List (List Int))(x:Int):(cF H x).length<=H.length:=G6 (E:=H) x
theorem Fh{H:List (List Int)}{x:Int}{t:fe}{m:TM}(W:H.length<=100)(Y:t=d5 inD (mV 2) (mV 1))(Z:m=mV 0){e:D}(X:D2 e=aC ⟨mr (H.map tupI),.none⟩):bX bY (aL (a7 (uG (mV 1)) (dy 2 (aY (gN 0) (aY (gN 1) dE))) t m [none,none,ar 0])) [ar (.int x),ar e]=aC (tupI (cF H x)):=by
 subst Y Z;have h:=kD (l:=dq H.length) (mk:=λi:Nat=>D.tup [.int (i:Int),tupI (H.getD i [])]) (f:=λi:Nat=>D.int (i:Int)) (mi:=uG (mV 1)) (g:=dy 2 (aY (gN 0) (aY (gN 1) dE))) (t:=d5 inD (mV 2) (mV 1)) (m:=mV 0) (js:=[none,none,ar 0]) (ρ:=[ar (.int x),ar e]) (λρ=>∃a b,ρ=[a,b,ar (.int x)]) (λi=>bU x (H.getD i [])) (by
  rw[<-enum_rows];exact X) (by rw[Oc];unfold lim;omega) ⟨none,none,rfl⟩ (λi hi ρ ⟨a,b,hρ⟩=>by
  subst hρ;exact⟨[ar (.int i),ar (tupI (H.getD i [])),ar (.int x)],rfl,⟨_,_,rfl⟩,bA (x:=.int x) (y:=tupI (H.getD i [])) rfl rfl qS,λ_=>rfl⟩) (by have:=gU (cF H x);unfold cF at this;rw[Od]at this;exact this)
 refine(cU h).trans ((jC (by rw[NM];exact NZ (Om _ _) (by rw[Oc];unfold lim;omega))).trans ?_);unfold cF tupI;rw[Od];rfl
theorem Fi(H:List (List Int)):((dq n).map λi:Nat=>tupI (cF H (i:Int)))=(b8 n H).map tupI:=by unfold b8;rw[Od];rfl
theorem Fj(W:n<=7)(w:WebOk n E)(h:Shr n E T):gJ [aw n E,cV T]=aC (jK n T):=by
 have U:=gK h.cr h.pl;have S:=ph h;unfold gJ pX;have X:=kD (l:=dq n) (mk:=λi:Nat=>D.int (i:Int)) (f:=λi:Nat=>tupI (cF (aD n T) (i:Int))) (mi:=n5 (mV 2)) (g:=gN 0) (t:=lz) (m:=lA) (js:=[none,ar 3]) (ρ:=[ar (aw n E),ar (cV T),ar (.int n),ar (cV (aD n T)),none]) (λρ=>∃x,ρ=[x,ar (cV (aD n T))]) (λ_=>b_) (v9 rfl (by omega)) (by rw[Oc];unfold lim;omega) ⟨none,rfl⟩ (λi Y ρ ⟨x,hρ⟩=>by subst hρ;exact⟨[ar (.int i),ar (cV (aD n T))],rfl,⟨_,rfl⟩,rfl,λ_=>Fh (by omega) rfl rfl rfl⟩) (by rw[bO,Fi];exact bt _)
 rw[bO,Fi]at X;have nl:=iS (n:=n) (aD n T);have hs:aL (bX bG (mV 4)) [ar (aw n E),ar (cV T),ar (.int n),ar (cV (aD n T)),ar (.fz ((b8 n (aD n T)).map tupI))]=aC (.fz ((bc (b8 n (aD n T))).map tupI)):=by
  unfold aL;rw[cU (x:=.fz ((b8 n (aD n T)).map tupI)) rfl];show iF (kx ((b8 n (aD n T)).map tupI))=_;rw[tj (λr Z=>by unfold b8 at Z;obtain⟨i,Y,rfl⟩:=NY.mp Z;rw[yx,tu h (N0.mp Y)];decide) (by omega)]
  exact cw (bt _) (by rw[NM,(bx _).length_eq,nl];unfold lim;omega)
 refine eZ (o:=.ret (jK n T)) ((aI (iH (not_eq (b:=b_) (e9 (d7 ((call2 rfl rfl).trans (Fg W w h))))))).trans ((aI (cZ (x:=.int n) rfl)).trans ((aI (cZ (d7 ((call2 (x:=.int n) (y:=cV T) rfl rfl).trans (JW W (by omega)))))).trans ((aI (Ff X)).trans (bS ?_))))) rfl;refine JU (Lz ((sY rfl).trans (by rw[NM])) ((cU hs).trans (jC (by rw[NM,(bx _).length_eq,nl];unfold lim;omega)))) ((cU rfl).trans (jC (by rw[NM,nl];unfold lim;omega)))
theorem Fk{m:Nat}{k l:Nat}(Y:k<l)(Z:l<m):kB m (tupI [(k:Int),(l:Int)])=true:=by simp[tupI,kB,gu];omega
theorem Fl{R:List (List Int)}:kH (.tup (R.map tupI)) (.tup (R.map tupI))=aC (.bl b_):=bM λS=>by
 have Z:gO S 60 (.tup (R.map tupI))=ar (.tuple (R.map iE)):=by show(mapP (gO S 59) (R.map tupI)).map wM=_;rw[iY];rfl
 unfold kH;refine(fh Z Z).mpr ⟨?_,rfl⟩;simp only[eo];rw[qj]
theorem Fm{a b:Int}:MW (tupI [a,b]):=⟨rfl,λds e x Z=>by
 cases e;rcases N6.mp Z with rfl|Z
 ·rfl
 ·rw[NW.mp Z];rfl⟩
theorem LG(R:n<=7)(h:Shr n E T):jS [aw (aD n T).length (bc (b8 n (aD n T))),.int n,.tup ((b8 n (aD n T)).map tupI)]=aC (.bl b_):=by
 have nl:=iS (n:=n) (aD n T);have Z:∀t∈b8 n (aD n T),∃k l:Nat,t=[(k:Int),(l:Int)]/\k<l/\l<(aD n T).length:=λt Y=>by unfold b8 at Y;obtain⟨i,S,rfl⟩:=NY.mp Y;exact tw h (N0.mp S)
 generalize b8 n (aD n T)=N at nl Z;generalize (aD n T).length=m at Z;refine cQ (o:=.ret (.bl b_)) ?_ rfl;show jR [ar (aw m (bc N)),ar (.int n),ar (.tup (N.map tupI))]=_;unfold jR;refine(aI (iH (uU (b:=c_) (not_eq (b:=b_) (e9 rfl)) λ_=>bA (nk rfl) rfl (by rw[NM,nl,Lv,N1 rfl];rfl)))).trans (bS (and_eq (b:=b_) ?_ (λ_=>?_) λz=>by cases z))
 ·have:=gw (l:=N) (mk:=tupI) (mi:=bP (mV 2)) (g:=gN 0) (t:=jv) (m:=jw) (js:=[none,ar 0]) (ρ:=[ar (aw m (bc N)),ar (.int n),ar (.tup (N.map tupI))]) (λ_=>b_) (λρ=>∃x,ρ=[x,ar (aw m (bc N))]) rfl (by unfold lim;omega) ⟨none,rfl⟩ λt Y ρ ⟨x,hρ⟩=>by
   subst hρ;obtain⟨k,l,rfl,X,W⟩:=Z t Y;refine⟨[ar (tupI [(k:Int),(l:Int)]),ar (aw m (bc N))],rfl,⟨_,rfl⟩,rfl,d7 ((call2 (x:=.int m) (y:=tupI [(k:Int),(l:Int)]) rfl rfl).trans ((Er Fm).trans ?_))⟩;rw[Fk X W]
  rw[this,Of.mpr λ_ _=>rfl]
 ·have hs:aL (bX mw (mV 2)) [ar (aw m (bc N)),ar (.int n),ar (.tup (N.map tupI))]=aC (.fz ((bc N).map tupI)):=by
   unfold aL;rw[cU (x:=.tup (N.map tupI)) rfl];show iF (kx (N.map tupI))=_;rw[tj (λr U=>by obtain⟨k,l,rfl,_⟩:=Z r U;exact(by decide:0<2)) (by omega)];exact cw (bt _) (by rw[NM,(bx _).length_eq,nl];unfold lim;omega)
  exact(bo ((cU hs).trans (jC (by rw[NM,(bx _).length_eq,nl];unfold lim;omega))) (y:=.tup ((bc N).map tupI)) rfl).trans Fl
theorem wy(S:n<=7)(w:WebOk n E)(h:Shr n E T):cY [aw n E,jK n T]=aC (.bl b_):=by
 have nl:=iS (n:=n) (aD n T);have K:=ph h;have Q:=wx S h;have Z:=LG S h;have X:g9 [aw (aD n T).length (bc (b8 n (aD n T)))]=aC (.bl b_):=by rw[Et z5 (v8 Q),v7 (by omega) (by omega) Q]
 unfold cY lu;have O:dg [jK n T]=aC (.bl b_):=(sN rfl).trans rfl;have Y:=qi (l:=bB n) (mk:=tupI) (mi:=bP (aL (ak cO (ae (mV 2) aj)))) (g:=dy 2 (aY (gN 0) (aY (gN 1) dE))) (t:=iB) (m:=iD) (js:=[none,none,ar 0,ar 4]) (ρ:=[ar (aw n E),ar (jK n T),ar (.int n),ar (aw (aD n T).length (bc (b8 n (aD n T)))),ar (.tup ((b8 n (aD n T)).map tupI))]) (λ_=>b_) (λρ=>∃x y,ρ=[x,y,ar (aw n E),ar (.tup ((b8 n (aD n T)).map tupI))]) (by
   have:aL (ak cO (ae (mV 2) aj)) [ar (aw n E),ar (jK n T),ar (.int n),ar (aw (aD n T).length (bc (b8 n (aD n T)))),ar (.tup ((b8 n (aD n T)).map tupI))]=aC (.fz ((bB n).map tupI)):=by unfold aL;rw[cz (x:=.int n) rfl];exact A4 (by omega)
   unfold bP;rw[this,aq];rfl) (by have:=Ri (n:=n) (by omega);unfold lim;omega) ⟨none,none,rfl⟩ λt ht ρ ⟨x,y,hρ⟩=>by
  subst hρ;obtain⟨a,b,rfl,h0,W,U⟩:=sQ t ht;obtain⟨i,rfl⟩:=Oo h0;obtain⟨j,rfl⟩:=Oo (show 0<=b by omega);have P:i<n:=by omega
  have R:j<n:=by omega
  refine⟨[ar (.int i),ar (.int j),ar (aw n E),ar (.tup ((b8 n (aD n T)).map tupI))],rfl,⟨_,_,rfl⟩,rfl,?_⟩;have L:aU b9 (mV 3) (mV 0) [ar (.int i),ar (.int j),ar (aw n E),ar (.tup ((b8 n (aD n T)).map tupI))]=aC (tupI (cF (aD n T) (i:Int))):=(bo (x:=.tup ((b8 n (aD n T)).map tupI)) (y:=.int i) rfl rfl).trans ((qc (by omega)).trans (by rw[pj P]));have N:aU b9 (mV 3) (mV 1) [ar (.int i),ar (.int j),ar (aw n E),ar (.tup ((b8 n (aD n T)).map tupI))]=aC (tupI (cF (aD n T) (j:Int))):=(bo (x:=.tup ((b8 n (aD n T)).map tupI)) (y:=.int j) rfl rfl).trans ((qc (by omega)).trans (by rw[pj R]));refine(bo (d7 ((nF rfl rfl rfl).trans sV)) (d7 ((call2 L N).trans (EL (by have:=Hk (aD n T) (i:Int);omega))))).trans (Ls.trans ?_);have:tB E (i:Int) (j:Int)=((cF (aD n T) (i:Int)).any λp=>bU p (cF (aD n T) (j:Int))):=by rw[O0, <-uZ h P R (by omega),Ru];exact⟨λ⟨p,W,U⟩=>⟨p,W,aW.mpr U⟩,λ⟨p,W,U⟩=>⟨p,W,aW.mp U⟩⟩
  rw[this,Rv]
 rw[Of.mpr λ_ _=>rfl]at Y;refine eZ (o:=.ret (.bl b_)) ((aI (hU (d7 ((cz rfl).trans (we S w))))).trans ((aI (iH (not_eq (b:=b_) (e9 (d7 ((cz rfl).trans O)))))).trans ((aI (cZ (x:=.int n) rfl)).trans ((aI (LF (x:=jK n T) (ρ':=[ar (aw n E),ar (jK n T),ar (.int n),ar (aw (aD n T).length (bc (b8 n (aD n T)))),ar (.tup ((b8 n (aD n T)).map tupI))]) rfl rfl)).trans ((aI (iH (uU (b:=c_) (not_eq (b:=b_) (e9 (d7 ((cz rfl).trans X)))) λ_=>not_eq (b:=b_) (e9 (d7 ((nF rfl rfl rfl).trans Z)))))).trans (bS Y)))))) rfl
theorem yy(R:n<=7)(w:WebOk n E)(h:Shr n E T):eX [aw n E,jK n T]=aC (cV T):=by
 have nl:=iS (n:=n) (aD n T);have Q:=ph h;unfold eX mF;have X:=kD (l:=dq (aD n T).length) (mk:=λi:Nat=>D.int (i:Int)) (f:=λi:Nat=>tupI (cF (b8 n (aD n T)) (i:Int))) (mi:=n5 (aU b9 (mV 2) (mK (.int 0)))) (g:=gN 0) (t:=jx) (m:=jz) (js:=[none,ar 3]) (ρ:=[ar (aw n E),ar (jK n T),ar (aw (aD n T).length (bc (b8 n (aD n T)))),ar (.tup ((b8 n (aD n T)).map tupI)),none]) (λρ=>∃x,ρ=[x,ar (.tup ((b8 n (aD n T)).map tupI))]) (λ_=>b_) (v9 (n:=(aD n T).length) rfl (by omega)) (by rw[Oc];unfold lim;omega) ⟨none,rfl⟩ (λi hi ρ ⟨x,hρ⟩=>by subst hρ;exact⟨[ar (.int i),ar (.tup ((b8 n (aD n T)).map tupI))],rfl,⟨_,rfl⟩,rfl,λ_=>Fh (by omega) rfl rfl rfl⟩) (by rw[bO,Fi];exact bt _)
 have U:((dq (aD n T).length).map λi:Nat=>tupI (cF (b8 n (aD n T)) (i:Int)))=(aD n T).map tupI:=by
  conv=>rhs;rw[<-CF h]
  rw[Od];rfl
 rw[bO,U]at X;have Y:=ER (l:=aD n T) (mk:=tupI) (f:=tupI) (mi:=bP (mV 4)) (g:=gN 0) (t:=gp) (m:=gq) (js:=[none]) (ρ:=[ar (aw n E),ar (jK n T),ar (aw (aD n T).length (bc (b8 n (aD n T)))),ar (.tup ((b8 n (aD n T)).map tupI)),ar (cV (aD n T))]) (λρ=>∃x,ρ=[x]) (λc=>decide (2<=c.length)) rfl (by unfold lim;omega) ⟨none,rfl⟩ (λc hc ρ ⟨x,hρ⟩=>by subst hρ;refine⟨[ar (tupI c)],rfl,⟨_,rfl⟩,?_,λ_=>rfl⟩;refine bA ((nk rfl).trans (by rw[NM])) (y:=.int 2) rfl ?_;show aC (D.bl (decide ((2:Int)<=c.length)))=_;exact P6 (λb:Bool=>(aC (D.bl b):M D)) (Pg.mpr (by omega))) (bt _)
 have Z:=Al h;have W:=gK h.cr h.pl;have hs:aL (bX bG (aL (yQ (a7 (bP (mV 4)) (gN 0) gp gq [none])))) [ar (aw n E),ar (jK n T),ar (aw (aD n T).length (bc (b8 n (aD n T)))),ar (.tup ((b8 n (aD n T)).map tupI)),ar (cV (aD n T))]=aC (cV T):=by unfold aL at Y⊢;rw[cU Y];show iF (kx (((aD n T).filter λc=>decide (2<=c.length)).map tupI))=_;rw[tj (λr S=>(pf h (NU.mp S).1).2.2) (PZ (Om _ _) (by omega)),Z];exact cw (bt _) (by rw[NM];unfold lim;omega)
 exact eZ (o:=.ret (cV T)) ((aI (iH (not_eq (b:=b_) (e9 (d7 ((call2 rfl rfl).trans (wy R w h))))))).trans ((aI (LF (x:=jK n T) (ρ':=[ar (aw n E),ar (jK n T),ar (aw (aD n T).length (bc (b8 n (aD n T)))),ar (.tup ((b8 n (aD n T)).map tupI)),none]) rfl rfl)).trans ((aI (Ff X)).trans (bS hs)))) rfl
end
section
variable {n:Nat}{E:List (List Int)}{z zs:List Int}
theorem BB(w:WebOk n E){x y:Int}(Y:x≠y):tB E x y=b_↔∃t∈E,x∈t/\y∈t:=by
 have key:∀{x y:Int},x<y->(tB E x y=b_↔∃t∈E,x∈t/\y∈t):=λ{x y} h=>by
  rw[iG h,N8];constructor
  ·exact λZ=>⟨_,Z,.head _,.tail _ (.head _)⟩
  ·rintro⟨t,Z,X,W⟩;obtain⟨a,b,rfl,_,U,_⟩:=w.el t Z;have X:x=a\/x=b:=by simpa using X
   have W:y=a\/y=b:=by simpa using W
   have e1:x=a:=by omega
   have e2:y=b:=by omega
   rw[e1,e2];exact Z
 rcases P0 Y with h|h
 ·exact key h
 ·rw[gW,key h];exact⟨λ⟨t,a,b,c⟩=>⟨t,a,c,b⟩,λ⟨t,a,b,c⟩=>⟨t,a,c,b⟩⟩
theorem pk{a b:Int}:EW z [a,b]=b_↔a∈z/\b∈z:=by show(bU a z && bU b z)=b_↔_;rw[OA,aW,aW]
theorem BC(w:WebOk n E)(S:z.Pairwise (· <·)):WebOk z.length (kF E z):=by
 refine⟨λt X=>?_,?_,?_⟩
 ·unfold kF at X;obtain⟨s,hs,rfl⟩:=NY.mp X;obtain⟨U,T⟩:=NU.mp hs;obtain⟨a,b,rfl,_,Z,_⟩:=w.el s U;obtain⟨R,W⟩:=pk.mp T;have Q:=Ac S R W Z;have P:=(fv W).1;exact⟨_,_,rfl,by omega,by show((z.idxOf a:Nat):Int)<(z.idxOf b:Nat);omega,by show((z.idxOf b:Nat):Int)<_;omega⟩
 ·unfold kF;rw[Oz];refine Ox ?_ (OK _ w.ris);intro s t hs X Y;obtain⟨U,T⟩:=NU.mp hs;obtain⟨Q,P⟩:=NU.mp X;obtain⟨a,b,rfl,_,Z,_⟩:=w.el s U;obtain⟨c,d,rfl,_,O,_⟩:=w.el t Q;obtain⟨R,W⟩:=pk.mp T;obtain⟨L,N⟩:=pk.mp P;rw[EV]at Y;show HT.lexLt [((z.idxOf a:Nat):Int),((z.idxOf b:Nat):Int)] [((z.idxOf c:Nat):Int),((z.idxOf d:Nat):Int)]=b_;rw[EV];rcases Y with h|⟨rfl,h⟩
  ·have:=Ac S R L h;exact .inl (by omega)
  ·have:=Ac S W N h;exact .inr ⟨rfl,by omega⟩
 ·unfold kF;rw[NM];exact NZ (Om _ _) w.few
theorem Fo(w:WebOk n E)(R:z.Pairwise (· <·))(I:∀x∈z,0<=x/\x<n):Pul z.length (kF E z) n E (λi=>z.getD i 0):=by
 have U:∀i j,i<z.length->j<z.length->z.getD i 0=z.getD j 0->i=j:=λi j W T e=>by rw[<-wd R W,e,wd R T]
 refine⟨U,λi W=>I _ (gv W),λi j W T S=>?_⟩;rw[O0,BB (BC w R) (by omega),BB w (λe=>S (U i j W T e))];constructor
 ·rintro⟨t,ht,Z,Y⟩;unfold kF at ht;obtain⟨s,hs,rfl⟩:=NY.mp ht;obtain⟨O,J⟩:=NU.mp hs;obtain⟨a,b,rfl,_,_,_⟩:=w.el s O;obtain⟨H,G⟩:=pk.mp J;have back:∀k:Nat,(k:Int)∈Lx z [a,b]->z.getD k 0∈[a,b]:=λk Q=>by
   have Q:(k:Int)=(z.idxOf a:Nat)\/(k:Int)=(z.idxOf b:Nat):=by
    rcases N6.mp Q with e|e
    ·exact .inl e
    ·exact .inr (NW.mp e)
   rcases Q with e|e
   ·rw[show k=z.idxOf a by omega,(fv H).2];exact .head _
   ·rw[show k=z.idxOf b by omega,(fv G).2];exact .tail _ (.head _)
  exact⟨_,O,back i Z,back j Y⟩
 ·rintro⟨t,ht,Z,Y⟩;obtain⟨a,b,rfl,_,K,_⟩:=w.el t ht;have Z:z.getD i 0=a\/z.getD i 0=b:=by simpa using Z
  have Y:z.getD j 0=a\/z.getD j 0=b:=by simpa using Y
  have X:z.getD i 0≠z.getD j 0:=λe=>S (U i j W T e);have mi:=gv W;have P:=gv T;have L:=wd R W;have N:=wd R T;refine⟨Lx z [a,b],NY.mpr ⟨[a,b],NU.mpr ⟨ht,pk.mpr ?_⟩,rfl⟩,?_⟩
  ·rcases Z with Z|Z<;>rcases Y with Y|Y
   ·exact(X (Z.trans Y.symm)).elim
   ·exact⟨Z ▸ mi,Y ▸ P⟩
   ·exact⟨Y ▸ P,Z ▸ mi⟩
   ·exact(X (Z.trans Y.symm)).elim
  ·show(i:Int)∈[((z.idxOf a:Nat):Int),((z.idxOf b:Nat):Int)]/\(j:Int)∈[((z.idxOf a:Nat):Int),((z.idxOf b:Nat):Int)];rcases Z with Z|Z<;>rcases Y with Y|Y
   ·exact(X (Z.trans Y.symm)).elim
   ·rw[<-Z, <-Y,L,N];exact⟨.head _,.tail _ (.head _)⟩
   ·rw[<-Z, <-Y,L,N];exact⟨.tail _ (.head _),.head _⟩
   ·exact(X (Z.trans Y.symm)).elim
theorem Am(Z:zs.Perm (eE n)):zs.length=n:=by rw[Z.length_eq];unfold eE;simp
theorem mQ(Z:zs.Perm (eE n)){x:Int}:x∈zs↔0<=x/\x<n:=by
 rw[Z.mem_iff];unfold eE;rw[NY];constructor
 ·rintro⟨i,hi,rfl⟩;have:=N0.mp hi;omega
 ·rintro⟨h1,h2⟩;exact⟨x.toNat,N0.mpr (by omega),by omega⟩
theorem An(Y:zs.Perm (eE n)){i:Nat}(X:i<n):zs.idxOf (zs.getD i 0)=i:=by have W:=Am Y;have Z:=fv (gv (z:=zs) (a:=i) (by omega));exact sS Y (by have:=Z.1;omega) X Z.2
theorem JX(Y:zs.Perm (eE n))(w:WebOk n E):Pul n E n (bc (E.map (qT zs))) (λi=>zs.getD i 0)/\Pul n (bc (E.map (qT zs))) n E (λi=>((zs.idxOf (i:Int):Nat):Int)):=by
 have K:=Am Y;have P:=sU Y (nq w);have Q:=bx (E.map (qT zs));generalize bc (E.map (qT zs))=E' at P Q;have inj:∀i j,i<n->j<n->zs.getD i 0=zs.getD j 0->i=j:=λi j W S e=>by rw[<-An Y W,e,An Y S]
 have key:∀i j:Nat,i<n->j<n->i≠j->tB E (i:Int) (j:Int)=tB E' (zs.getD i 0) (zs.getD j 0):=λi j W S U=>by
  rw[O0,BB w (by omega),BB P (λe=>U (inj i j W S e))];constructor
  ·rintro⟨t,T,Z,X⟩;exact⟨qT zs t,Q.mem_iff.mpr (NY.mpr ⟨t,T,rfl⟩),aW.mp ((Ad w T).mpr ⟨i,aW.mpr Z,by rw[OS]⟩),aW.mp ((Ad w T).mpr ⟨j,aW.mpr X,by rw[OS]⟩)⟩
  ·rintro⟨t',ht',Z,X⟩;obtain⟨t,T,rfl⟩:=NY.mp (Q.mem_iff.mp ht');have back:∀k:Nat,k<n->zs.getD k 0∈qT zs t->(k:Int)∈t:=λk L hm=>by
    obtain⟨p,O,N⟩:=(Ad w T).mp (aW.mpr hm);obtain⟨a,b,rfl,_,_,_⟩:=w.el t T;have R:=aW.mp O;have J:0<=p/\p<n:=by
     rcases N6.mp R with e|e
     ·omega
     ·have:=NW.mp e;omega
    have:=inj k p.toNat L (by omega) N;rw[show(k:Int)=p by omega];exact R
   exact⟨t,T,back i W Z,back j S X⟩
 refine⟨⟨inj,λi W=>(mQ Y).mp (gv (by omega)),key⟩,⟨λi j W S e=>?_,λi W=>?_,λi j W S U=>?_⟩⟩
 ·have Z:=fv ((mQ Y).mpr (show 0<=(i:Int)/\(i:Int)<n by omega));have X:=fv ((mQ Y).mpr (show 0<=(j:Int)/\(j:Int)<n by omega));have e:zs.idxOf (i:Int)=zs.idxOf (j:Int):=by omega
  have:=Z.2;rw[e,X.2]at this;omega
 ·have Z:=fv ((mQ Y).mpr (show 0<=(i:Int)/\(i:Int)<n by omega));have:=Z.1;omega
 ·have Z:=fv ((mQ Y).mpr (show 0<=(i:Int)/\(i:Int)<n by omega));have X:=fv ((mQ Y).mpr (show 0<=(j:Int)/\(j:Int)<n by omega));rw[key _ _ (by have:=Z.1;omega) (by have:=X.1;omega) (λe=>U (by
   have:=Z.2;rw[e,X.2]at this;omega)),Z.2,X.2]
theorem Fp{E':List (List Int)}{X:Nat->Int}{ψ:Nat->Nat}(Z:n<=7)(w:WebOk n E)(W:WebOk n E')(p:Pul n E' n E X)(Y:∀k:Nat,k<n->ψ k<n/\X (ψ k)=(k:Int)):(mP n E).length<=(mP n E').length:=by
 have S:((mP n E).map (nG n X)).Nodup:=by rw[OT,Oz];exact Ox (λ{a b} ha hb hab e=>hab (E7 Y ((jE Z w).mp ha) ((jE Z w).mp hb) e)) (Ai Z)
 have:=mM (m:=mP n E') S λl T=>by obtain⟨R,U,rfl⟩:=NY.mp T;exact(jE Z W).mpr (Bu p W ((jE Z w).mp U))
 rwa [NM]at this
theorem CG(X:n<=7)(w:WebOk n E)(Z:zs.Perm (eE n)):(mP n (bc (E.map (qT zs)))).length=(mP n E).length:=by
 obtain⟨T,S⟩:=JX Z w;have U:=sU Z (nq w);have R:=Am Z;refine Nat.le_antisymm (Fp X U w T (ψ:=λk=>zs.idxOf (k:Int)) λk W=>?_) (Fp X w U S (ψ:=λk=>(zs.getD k 0).toNat) λk W=>?_)
 ·have Y:=fv ((mQ Z).mpr (show 0<=(k:Int)/\(k:Int)<n by omega));exact⟨by have:=Y.1;omega,Y.2⟩
 ·have Y:=(mQ Z).mp (gv (z:=zs) (a:=k) (by omega));refine⟨by omega,?_⟩;show((zs.idxOf (((zs.getD k 0).toNat:Nat):Int):Nat):Int)=k;rw[QZ Y.1,An Z W]
end
theorem JY{p q:fe}{b c:Bool}{ρ:aE}(Z:p ρ=aC b)(Y:b=b_->q ρ=aC c):xB p q ρ=aC (b && c):=by
 show(p ρ>>=_)=_;rw[Z];cases b with
 |true=>exact Y rfl
 |false=>rfl
theorem Hl{s t:List Int}(hs:s.length=2)(Z:t.length=2):m5 [.tup ((s++t).map D.int)]=aC (.int (distinct (s++t)).length):=by unfold m5;dsimp only;rw[fc];exact if_pos (by rw[NP];omega)
section
variable {n:Nat}{E:List (List Int)}
theorem JZ(J:E.length<=21)(R:∀t∈E,t.length=2):iF (g6 [aw n E])=aC (aw E.length (c8 E)):=by
 refine HF sR λS=>?_;have hlen:∀{w x y},bX dj (mV 1) [w,ar (.tup (E.map tupI)),x,y]=aC (.int E.length):=λ{w x y}=>(nk rfl).trans (by rw[NM]);have Z:∀a,(tZ E a).length<=21:=λa=>by unfold tZ;rw[NM];exact NZ (Om _ _) (by rw[Pz];omega)
 obtain⟨ρ',⟨x3,rfl⟩,Y⟩:=forA (α:=Nat) (mk:=λi:Nat=>D.int (i:Int)) (f:=λa=>(tZ E a).map tupI) (g:=gN 3) (b:=jj) (its:=(dq E.length).map λi:Nat=>D.int (i:Int)) (S:=S) 21
  (λρ=>∃x,ρ=[ar (aw n E),ar (.tup (E.map tupI)),ar (.lst S.length),x]) (dq E.length) [] [ar (aw n E),ar (.tup (E.map tupI)),ar (.lst S.length),none] ⟨none,rfl⟩ (by show 0+_<=1000;rw[Oc];omega)
  (λa X=>⟨by rw[NM];exact Z a,λρ xs ⟨x,hρ⟩ hl=>by
   subst hρ;have X:=N0.mp X;refine⟨[ar (aw n E),ar (.tup (E.map tupI)),ar (.lst S.length),ar (.int a)],_,rfl,⟨ar (.int a),rfl⟩,?_⟩;have K:vN (aU cW (mV 3) (mK (.int 1))) (bX dj (mV 1)) [ar (aw n E),ar (.tup (E.map tupI)),ar (.lst S.length),ar (.int a)]=aC ⟨(hO (a+1) (E.length - (a+1))).map λb:Nat=>.int (b:Int),.none⟩:=by rw[sI (x:=.int ((a:Int)+1)) (y:=.int E.length) rfl hlen,En (by omega),rz]
   have T:=kD (α:=Nat) (l:=hO (a+1) (E.length - (a+1))) (f:=λb:Nat=>tupI [(a:Int),(b:Int)]) (g:=gN 0) (t:=jh) (m:=ji) (js:=[none,ar 1,ar 3]) (λρ=>∃x,ρ=[x,ar (.tup (E.map tupI)),ar (.int a)]) (λb=>kC (E.getD a []) (E.getD b [])) K (by rw[Pz];unfold lim;omega) ⟨none,rfl⟩
    (λb W ρ ⟨x,hρ⟩=>by
     subst hρ;have W:b<E.length:=by have:=O2.mp W;omega
     refine⟨[ar (.int b),ar (.tup (E.map tupI)),ar (.int a)],rfl,⟨_,rfl⟩,?_,λ_=>rfl⟩;have L:aU b9 (mV 1) (mV 2) [ar (.int b),ar (.tup (E.map tupI)),ar (.int a)]=aC (tupI (E.getD a [])):=(bo (x:=.tup (E.map tupI)) (y:=.int a) rfl rfl).trans (qc X);have Q:aU b9 (mV 1) (mV 0) [ar (.int b),ar (.tup (E.map tupI)),ar (.int a)]=aC (tupI (E.getD b [])):=(bo (x:=.tup (E.map tupI)) (y:=.int b) rfl rfl).trans (qc W);have P:=R _ (getD_in X);have N:=R _ (getD_in W);have O:aL (aU cW (aU b9 (mV 1) (mV 2)) (aU b9 (mV 1) (mV 0))) [ar (.int b),ar (.tup (E.map tupI)),ar (.int a)]=aC (.tup ((E.getD a []++E.getD b []).map D.int)):=by refine d7 ((bo L Q).trans ?_);show bw ((E.getD a []).map D.int++(E.getD b []).map D.int)=_;rw[<-OG];unfold bw;exact if_pos (by rw[NM,NP];unfold lim;omega)
     refine bA ((cU O).trans (Hl P N)) (y:=.int 4) rfl ?_;show aC (D.bl (decide (((distinct (E.getD a []++E.getD b [])).length:Int)<4)))=_;unfold kC;congr 2;exact Pg.mpr (by omega))
    (by have:=bt (((hO (a+1) (E.length - (a+1))).filter λb=>kC (E.getD a []) (E.getD b [])).map λb:Nat=>[(a:Int),(b:Int)]);rw[Od]at this;exact this)
   have e:((hO (a+1) (E.length - (a+1))).filter λb=>kC (E.getD a []) (E.getD b [])).map (λb:Nat=>tupI [(a:Int),(b:Int)])=(tZ E a).map tupI:=by unfold tZ;rw[Od];rfl
   rw[e]at T;refine uM (x:=.non) ((ya (x:=.lst S.length) rfl rfl (Oh T _)).trans (yp ?_));rw[NM];have:=Z a;omega⟩)
 have e:(dq E.length).flatMap (λa=>(tZ E a).map tupI)=(c8 E).map tupI:=by unfold c8;rw[QK]
 rw[e]at Y;have U:((c8 E).map tupI).length<=lim:=by
  have key:∀l:List Nat,(l.flatMap (tZ E)).length<=l.length*21:=λl=>by
   induction l with
   |nil=>exact NQ 0
   |cons x l ih=>rw[O4,NP,Ou,PM];have:=Z x;omega
  have:=key (dq E.length);rw[Oc]at this;rw[NM];unfold c8 lim;omega
 refine⟨_,S++[[]++(c8 E).map tupI],fy (o:=.ret (aw E.length (c8 E))) ?_ rfl,rfl,_,rfl⟩;refine(Oh (aI (cZ (x:=.tup (E.map tupI)) rfl)) S).trans ((aZ (cg (pZ (ys:=[]) (S1:=S) rfl (Og _)))).trans ((aZ (pY (v9 hlen (by omega)) Y)).trans (gr ?_)));exact Ep (Oh hlen _) ((AZ (x:=.lst S.length) rfl).trans (ES U))
end
section
variable {S:aK}{k:Nat}
theorem M9{E:List (List Int)}{e e2:TM}{ρ:aE}(h:e ρ=aC (.tup (E.map tupI)))(Z:e2 ρ=aC (.int (7:Nat)))(Y:E.length<=100):aL (DO e oN (oS e2)) ρ=aC (.tup ((E.take 7).map tupI)):=by rw[List.map_take];exact M6 h Z (by rw[NM];exact Y)
abbrev Ao(k n:Nat)(T:List (List Int))(w:Int)(r:D)(o:List (Option D)):aE:=ar (.lst k)::ar (.int 7)::ar (.int w)::ar r::ar (aw n T)::o
theorem Fq{n:Nat}{T:List (List Int)}{w:Int}{r:D}{x5 x6 x7:Option D}(hs:fb S k)(U:n<=7)(Q:1<n)(K:WebOk n T):∃y5 y6 y7 T' S1,
  aF (cb 5 (aL (ak aV (ae (mV 0) (ae (aU b9 (mV 4) (mK (.int 0))) aj))))) (aF (cb 6 (aU ny (aU cW (aU cW (mV 5) (mK (.int 1))) (aL (ak aV (ae (mV 0) (ae (aU i9 (aU b9 (mV 4) (mK (.int 0))) (mK (.int 1))) aj))))) (aU b9 (mV 4) (mK (.int 0))))) (aF (cb 7 (dz (ae (ak minD (ae (mV 5) (ae (mV 6) aj))) (ae (ak maxD (ae (mV 5) (ae (mV 6) aj))) aj)))) (cb 4 (dz (ae (aU b9 (mV 4) (mK (.int 0))) (ae (bX bY (aL (a7 (bP (aL (ak bj (ae (aU b9 (mV 4) (mK (.int 0))) aj)))) (gN 0) eh ez [none,ar 4,ar 7]))) aj)))))) (Ao k n T w r [x5,x6,x7]) S
   =ar (.ok (.nx (Ao k n T' w r [y5,y6,y7])),S1)/\WebOk n T'/\Kp k S S1/\S1.length=S.length:=by
 obtain⟨i,S1,e1,N,L,k1,W⟩:=qR (e1:=mV 0) (e2:=aU b9 (mV 4) (mK (.int 0))) (ρ:=Ao k n T w r [x5,x6,x7]) (m:=n) hs rfl ((bo (x:=aw n T) (y:=.int 0) rfl rfl).trans rfl) (by omega) (by omega);obtain⟨j,S2,e2,O,P,k2,R⟩:=qR (e1:=mV 0) (e2:=aU i9 (aU b9 (mV 4) (mK (.int 0))) (mK (.int 1))) (ρ:=Ao k n T w r [ar (.int i),x6,x7]) (m:=(n:Int) - 1) k1.st rfl ((bo ((bo (x:=aw n T) (y:=.int 0) rfl rfl).trans rfl) (y:=.int 1) rfl).trans rfl) (by omega) (by omega);have hm:aU ny (aU cW (aU cW (mV 5) (mK (.int 1))) (aL (ak aV (ae (mV 0) (ae (aU i9 (aU b9 (mV 4) (mK (.int 0))) (mK (.int 1))) aj))))) (aU b9 (mV 4) (mK (.int 0))) (Ao k n T w r [ar (.int i),x6,x7]) S1=ar (.ok (.int ((i+1+j) % n)),S2):=by refine(o7 (x:=.int (i+1+j)) (S1:=S2) ((o7 (x:=.int (i+1)) (S1:=S1) rfl e2).trans rfl) (y:=.int n) (S2:=S2) rfl).trans ?_;exact Oh (show ny (.int (i+1+j)) (.int n)=_ from if_pos (e:=M.fail) (show(0:Int)<n by omega)) S2
 have Y:dz (ae (ak minD (ae (mV 5) (ae (mV 6) aj))) (ae (ak maxD (ae (mV 5) (ae (mV 6) aj))) aj)) (Ao k n T w r [ar (.int i),ar (.int ((i+1+j) % n)),x7])=aC (tupI [if (i+1+j) % n<i then (i+1+j) % n else i,if (i+1+j) % n>i then (i+1+j) % n else i]):=mm rfl rfl;generalize [if (i+1+j) % n<i then (i+1+j) % n else i,if (i+1+j) % n>i then (i+1+j) % n else i]=o at Y;have X:=kD (l:=bB n) (mk:=tupI) (f:=tupI) (mi:=bP (aL (ak bj (ae (aU b9 (mV 4) (mK (.int 0))) aj)))) (g:=gN 0) (t:=eh) (m:=ez) (js:=[none,ar 4,ar 7]) (ρ:=Ao k n T w r [ar (.int i),ar (.int ((i+1+j) % n)),ar (tupI o)])
  (λρ=>∃x,ρ=[x,ar (aw n T),ar (tupI o)]) (λt=>decide (t∈T) !=decide (t=o)) (nh (by omega) ((bo (x:=aw n T) (y:=.int 0) rfl rfl).trans rfl)) (by have:=Ri (n:=n) (by omega);unfold lim;omega) ⟨none,rfl⟩
  (λt ht ρ ⟨x,hρ⟩=>by
   subst hρ;refine⟨[ar (tupI t),ar (aw n T),ar (tupI o)],rfl,⟨_,rfl⟩,?_,λ_=>rfl⟩;refine bA ((bo (x:=tupI t) (y:=.tup (T.map tupI)) rfl ((bo (x:=aw n T) (y:=.int 1) rfl rfl).trans rfl)).trans Bd) ((bo (x:=tupI t) (y:=tupI o) rfl rfl).trans ?_) M0;exact bM λS=>by unfold kH;exact(fh (jY t) (jY o)).mpr ⟨by unfold iE;simp only[eo];rw[mL],rfl⟩)
  (bt _)
 have Z:((bB n).filter λt=>decide (t∈T) !=decide (t=o)).Sublist (bB n):=Pm;have hw:=WebOk.of_sub U Z;refine⟨_,_,_,_,S2,(aZ (cg e1)).trans ((aZ (cg hm)).trans ((Oh (aI (cZ Y)) S2).trans (Oh (cZ (JU ((bo (x:=aw n T) (y:=.int 0) rfl rfl).trans rfl) ((cU X).trans (jC (by rw[NM];have:=hw.few;unfold lim;omega))))) S2))),hw,k1.trans k2,R.trans W⟩
theorem some_at(hs:fb S k):∃(n:Nat) (E:List (List Int)) (S1:aK),iF (eG [.lst k,.int 7]) S=ar (.ok (aw n E),S1)/\n<=7/\WebOk n E/\Kp k S S1/\S1.length=S.length:=by
 suffices H:∃(n:Nat) (E:List (List Int)) (S1:aK),fO [ar (.lst k),ar (.int 7),none,none,none,none,none,none] S=ar (.ok (.ret (aw n E)),S1)/\n<=7/\WebOk n E/\Kp k S S1 by obtain⟨n,E,S1,e,W,w,C⟩:=H;obtain⟨S2,e2,k2,J⟩:=uQ (c:=eG [.lst k,.int 7]) (d:=aw n E) hs (fy (o:=.ret (aw n E)) e rfl) C sR;exact⟨n,E,S2,e2,W,w,k2,J⟩
 obtain⟨w,U,e1,i,w1,k1,f⟩:=qR (e1:=mV 0) (e2:=mK (.int 4)) (ρ:=[ar (.lst k),ar (.int 7),none,none,none,none,none,none]) (m:=4) hs rfl rfl (by decide) (by decide);unfold fO;by_cases hw0:w=0
 ·obtain⟨n,E,X,e2,I,L,k2,J⟩:=EG (g:=7) (by decide) k1.st;refine⟨n,E,X,(aZ (cg e1)).trans (o8 ?_),I,L,k1.trans k2⟩;refine(Oh (b7 (b:=b_) (bA (x:=.int w) (y:=.int 0) rfl rfl (by rw[CQ,hw0];rfl))) U).trans ?_;rw[if_pos rfl];refine gr ?_;show iF (ak _ _ _) U=_;rw[call2 (x:=.lst k) (y:=.int 7) rfl rfl];exact e2
 ·obtain⟨n,E,X,e2,I,L,k2,J⟩:=EG (g:=6) (by decide) k1.st;have G:∀t∈E.take 7,t.length=2:=λt s=>by obtain⟨x,y,rfl,_⟩:=L.el t (List.mem_of_mem_take s);rfl
  have W:(E.take 7).length<=7:=by rw[OO];omega
  have K:=Bj W;generalize hT:E.take 7=T at G W K;have P:aL (ak g6 (ae (dz (ae (aU b9 (mV 3) (mK (.int 0))) (ae (aL (DO (aU b9 (mV 3) (mK (.int 1))) oN (oS (mV 1)))) aj))) aj)) [ar (.lst k),ar (.int 7),ar (.int w),ar (aw n E),none,none,none,none]=aC (aw T.length (c8 T)):=by unfold aL;rw[cz (x:=aw n T) (JU ((bo (x:=aw n E) (y:=.int 0) rfl rfl).trans rfl) (by rw[<-hT];exact M9 ((bo (x:=aw n E) (y:=.int 1) rfl rfl).trans rfl) rfl (by have:=L.few;omega)))];exact JZ (by omega) G
  obtain⟨zs,T0,u,F,k0,l0⟩:=sT (n:=T.length) (e1:=mV 0) (e2:=aU b9 (mV 4) (mK (.int 0))) (ρ:=[ar (.lst k),ar (.int 7),ar (.int w),ar (aw n E),ar (aw T.length (c8 T)),none,none,none]) k2.st (by omega) rfl ((bo (x:=aw T.length (c8 T)) (y:=.int 0) rfl rfl).trans rfl);have wn:=sU F (nq K);have O:ak cI (ae (mV 4) (ae (aL (ak bb (ae (mV 0) (ae (aL (bX cD (aU b9 (mV 4) (mK (.int 0))))) aj)))) aj)) [ar (.lst k),ar (.int 7),ar (.int w),ar (aw n E),ar (aw T.length (c8 T)),none,none,none] X=ar (.ok (aw T.length (bc ((c8 T).map (qT zs)))),T0):=by unfold ak;rw[aR (dH (x:=aw T.length (c8 T)) (S1:=X) rfl (dH (S2:=T0) u rfl))];exact Oh (Bb F (nq K)) T0
  obtain⟨Q,Y,k3,j⟩:=uQ k2.st O k0 sR;have Y:aL (ak cI (ae (mV 4) (ae (aL (ak bb (ae (mV 0) (ae (aL (bX cD (aU b9 (mV 4) (mK (.int 0))))) aj)))) aj))) [ar (.lst k),ar (.int 7),ar (.int w),ar (aw n E),ar (aw T.length (c8 T)),none,none,none] X=ar (.ok (aw T.length (bc ((c8 T).map (qT zs)))),Q):=Y
  clear O
  generalize bc ((c8 T).map (qT zs))=N at wn Y;have Z:xB (d5 kH (mV 2) (mK (.int 1))) (d5 xp (aU b9 (mV 4) (mK (.int 0))) (mK (.int 1))) [ar (.lst k),ar (.int 7),ar (.int w),ar (aw n E),ar (aw T.length N),none,none,none]=aC (decide (w=1) && decide ((1:Int)<T.length)):=JY (bA (x:=.int w) (y:=.int 1) rfl rfl CQ) (λ_=>bA ((bo (x:=aw T.length N) (y:=.int 0) rfl rfl).trans rfl) (y:=.int 1) rfl rfl);by_cases R:(decide (w=1) && decide ((1:Int)<T.length))=b_
  ·rw[R]at Z;have v:1<T.length:=by rw[OA,N8,N8]at R;omega
   obtain⟨l,p,a,A,S1,B,q,z,h⟩:=Fq (n:=T.length) (T:=N) (w:=w) (r:=aw n E) (x5:=none) (x6:=none) (x7:=none) k3.st W v wn;refine⟨T.length,A,S1,?_,W,q,((k1.trans k2).trans k3).trans z⟩;refine(aZ (cg e1)).trans ((Oh (aI (iH (bA (x:=.int w) (y:=.int 0) rfl rfl (by rw[CQ,Ot hw0])))) U).trans ((aZ (ρ':=[ar (.lst k),ar (.int 7),ar (.int w),ar (aw n E),none,none,none,none]) (S1:=X) (cg (x:=aw n E) ?_)).trans ((Oh (aI (cZ P)) X).trans ((aZ (cg Y)).trans ((aZ ((Oh (b7 Z) Q).trans ((Oh (if_pos rfl) Q).trans B))).trans (gr rfl))))));show iF (ak _ _ _) U=_;rw[call2 (x:=.lst k) (y:=.int 6) rfl rfl];exact e2
  ·have R:(decide (w=1) && decide ((1:Int)<T.length))=false:=by simpa using R
   rw[R]at Z;refine⟨T.length,N,Q,?_,W,wn,(k1.trans k2).trans k3⟩;refine(aZ (cg e1)).trans ((Oh (aI (iH (bA (x:=.int w) (y:=.int 0) rfl rfl (by rw[CQ,Ot hw0])))) U).trans ((aZ (ρ':=[ar (.lst k),ar (.int 7),ar (.int w),ar (aw n E),none,none,none,none]) (S1:=X) (cg (x:=aw n E) ?_)).trans ((Oh (aI (cZ P)) X).trans ((aZ (cg Y)).trans ((Oh (aI (iH Z)) Q).trans (gr rfl))))));show iF (ak _ _ _) U=_;rw[call2 (x:=.lst k) (y:=.int 6) rfl rfl];exact e2
end
def Fs(T:List (List Int)):PyData:=.list (T.map iE)
theorem wA{S:aK}{f:Nat}(T:List (List Int)):gO S (f+2) (cV T)=ar (Fs T):=by show(mapP (gO S (f+1)) (T.map tupI)).map pd=_;rw[iY];rfl
theorem BD{S:aK}{f:Nat}:∀L:List (List (List Int)),mapP (gO S (f+2)) (L.map cV)=ar (L.map Fs)
 |[]=>rfl
 |T::L=>by
  show(match gO S (f+2) (cV T),mapP (gO S (f+2)) (L.map cV)with|some p,ar ps=>ar (p::ps)|_,_=>none)=_;rw[wA,BD L];rfl
theorem wB{S:aK}{f:Nat}(L:List (List (List Int))):gO S (f+3) (.fz (L.map cV))=ar (.list (L.map Fs)):=by show(mapP (gO S (f+2)) (L.map cV)).map pd=_;rw[BD];rfl
theorem BE(L:List (List (List Int))):eo (.list (L.map Fs)) (.list [])=L.isEmpty:=by cases L<;>simp[eo,ly]
theorem Hm{L:List (List (List Int))}:kH (.fz (L.map cV)) (.fz [])=aC (.bl L.isEmpty):=bM λS=>by unfold kH;exact(fh (wB L) (q:=.list []) rfl).mpr ⟨by rw[BE],rfl⟩
theorem Hn{L:List (List (List Int))}:mW (.fz (L.map cV)) (.fz [])=aC (.bl (!L.isEmpty)):=bM λS=>by unfold mW;exact(fh (wB L) (q:=.list []) rfl).mpr ⟨by rw[BE],rfl⟩
theorem Ft(T:List (List Int)):eo (Fs T) (Fs T)=true:=by unfold Fs;simp only[eo];exact qj T
theorem LH{T:List (List Int)}:mW (cV T) (cV T)=aC (.bl c_):=bM λS=>by unfold mW;exact(fh (wA T) (wA T)).mpr ⟨by rw[Ft];rfl,rfl⟩
theorem LI{T:List (List Int)}{L:List (List (List Int))}(h:T∈L):rX (cV T) (.fz (L.map cV))=aC (.bl c_):=bM λS=>by unfold rX;refine(oK (r:=c_) (wA T) (wB L) ?_).mpr ⟨rfl,rfl⟩;show ar (!((L.map Fs).any λy=>eo y (Fs T)))=_;rw[Ru (p:=λy=>eo y (Fs T)).mpr ⟨Fs T,NY.mpr ⟨T,h,rfl⟩,Ft T⟩];rfl
section
variable {n:Nat}{E:List (List Int)}{S:aK}{k:Nat}
def lK(n:Nat):List (List (List Int))->D
 |[]=>.non
 |T::_=>jK n T
theorem LJ{ρ:aE}:aL (cX aj) ρ=aC (.fz []):=things (us:=[]) (es:=aj) rfl rfl (Og _)
theorem J0(X:n<=7)(w:WebOk n E):eY [aw n E]=aC (lK n (mP n E)):=by
 have hs:=tq X w;have Z:∀T∈mP n E,Shr n E T:=λT W=>(jE X w).mp W;unfold eY mH
 match hL:mP n E,hs,Z with
 |[],hs,_=>exact eZ (o:=.ret .non) ((aI (cZ (d7 ((cz rfl).trans hs)))).trans (fG ((b7 (b:=b_) (not_eq (b:=c_) rfl)).trans ((if_pos rfl).trans (bS rfl))))) rfl
 | T::L,hs,Z=>
  have Y:aU b9 (mV 1) (mK (.int 0)) [ar (aw n E),ar (.fz ((T::L).map cV))]=aC (cV T):=by refine(bo (x:=.fz ((T::L).map cV)) (y:=.int 0) rfl rfl).trans ?_;show(match kJ (cV T::L.map cV) 0 with|some d=>(aC d:M D)|none=>M.fail)=_;rw[show kJ (cV T::L.map cV) 0=ar (cV T) by unfold kJ yM;simp]
  exact eZ (o:=.ret (jK n T)) ((aI (cZ (d7 ((cz rfl).trans hs)))).trans ((aI (iH (not_eq (b:=b_) rfl))).trans (bS (d7 ((call2 rfl Y).trans (Fj X w (Z T (.head _)))))))) rfl
theorem J1(Y:n<=7)(w:WebOk n E){T:List (List Int)}(h:Shr n E T){ρ:aE}(X:mV 1 ρ=aC (aw n E))(P:mV 5 ρ=aC (jK n T)):∃r,aL (ak mG (ae (aL (ak iX (ae (aU b9 (mV 5) (mK (.int 0))) aj))) (ae (mV 1) aj))) ρ=aC (tupI r):=by
 have L:=ph h;have N:=wx Y h;have Z:(bc (b8 n (aD n T))).length=n:=by rw[(bx _).length_eq,iS]
 obtain⟨z,Q,R⟩:=Fe Y h;have U:aL (ak iX (ae (aU b9 (mV 5) (mK (.int 0))) aj)) ρ=aC (aw n (c8 (bc (b8 n (aD n T))))):=d7 ((cz (x:=aw (aD n T).length (bc (b8 n (aD n T)))) ((bo P rfl).trans rfl)).trans ((Lw (by omega) N (by omega)).trans (by rw[Z])));have W:WebOk n (c8 (bc (b8 n (aD n T)))):=by
  have:=Bj (E:=bc (b8 n (aD n T))) (by omega)
  rwa [Z]at this
 obtain⟨r,O,_⟩:=Cz Q R;refine⟨r,d7 ((call2 U X).trans ((EK Y W Y w).trans ?_))⟩;rw[if_pos rfl,O];rfl
theorem body(Z:n<=7)(w:WebOk n E){T:List (List Int)}(h:Shr n E T){x0 x2 x3 x5 x6:Option D}:cP [x0,ar (aw n E),x2,x3,ar (cV T),x5,x6]=aC (.nx [x0,ar (aw n E),x2,x3,ar (cV T),ar (jK n T),x6]):=by unfold cP;obtain⟨r,Y⟩:=J1 Z w h (ρ:=[x0,ar (aw n E),x2,x3,ar (cV T),ar (jK n T),x6]) rfl rfl;refine(aI (cZ (d7 ((call2 rfl rfl).trans (Fj Z w h))))).trans ((aI (iH (uU (b:=c_) (bA (d7 ((call2 rfl rfl).trans (Fg Z w h))) (y:=.bl b_) rfl rfl) λ_=>bA (d7 ((call2 rfl rfl).trans (wy Z w h))) (y:=.bl b_) rfl rfl))).trans ?_);exact iH (uU (b:=c_) (bA (d7 ((call2 rfl rfl).trans (yy Z w h))) (y:=cV T) rfl LH) λ_=>bA Y (y:=.non) rfl rfl)
theorem yz(X:n<=7)(w:WebOk n E){its:List D}{x0 x2 x3 x6:Option D}:∀(L:List (List (List Int))) (x4 x5:Option D),(∀T∈L,Shr n E T)->∃Z Y,gz ⟨its,.none⟩ (gN 4) cP (L.map cV) [x0,ar (aw n E),x2,x3,x4,x5,x6]=aC (.nx [x0,ar (aw n E),x2,x3,Z,Y,x6])
 |[],x4,x5,_=>⟨x4,x5,by rw[Pl,lE]⟩
 |T::L,x4,x5,h=>by
  obtain⟨Z,Y,U⟩:=yz X w (its:=its) (x0:=x0) (x2:=x2) (x3:=x3) (x6:=x6) L (ar (cV T)) (ar (jK n T)) λT W=>h T (.tail _ W);exact⟨Z,Y,(wa rfl (body X w (h T (.head _)))).trans U⟩
theorem Ho(hs:fb S k)(J:n<=7){r:List (Option D)}:∃(z:List Int) (S1:aK),bX bY (aL (a7 (n5 (aU b9 (mV 1) (mK (.int 0)))) (gN 0) fR fS [none,ar 0])) (ar (.lst k)::ar (aw n E)::r) S=ar (.ok (tupI z),S1)/\z.Pairwise (· <·)/\(∀x∈z,0<=x/\x<n)/\Kp k S S1/\S1.length=S.length:=by
 obtain⟨ys,S1,e1,W,k1,T⟩:=Ct (its:=(dq n).map λi:Nat=>D.int (i:Int)) (mi:=n5 (aU b9 (mV 1) (mK (.int 0)))) (g:=gN 0) (t:=fR) (m:=fS) (js:=[none,ar 0]) (ρ:=ar (.lst k)::ar (aw n E)::r) (S:=S) (k:=k) (λρ=>∃x,ρ=[x,ar (.lst k)]) (λd y=>y=d/\∃i,d= .int i) (v9 rfl (by omega)) (by rw[NM,Oc];omega) ⟨none,rfl⟩ hs (λd y ⟨h,i,e⟩=>by rw[h,e];rfl) (λd hd ρ S Z hs=>by obtain⟨x,rfl⟩:=Z;obtain⟨i,_,rfl⟩:=NY.mp hd;obtain⟨j,S2,Q,K,L,k2,P⟩:=qR (e1:=mV 1) (e2:=mK (.int 3)) (ρ:=[ar (.int i),ar (.lst k)]) (m:=3) hs rfl rfl (by decide) (by decide);exact⟨[ar (.int i),ar (.lst k)],decide (0<j),S2,rfl,⟨_,rfl⟩,z8 (f:=xp) Q (y:=.int 0) rfl rfl,k2,P,λ_=>⟨.int i,S2,rfl,⟨rfl,i,rfl⟩,.refl k2.st,rfl⟩⟩)
 have X:Dr (λd y=>y=d) (((dq n).map λi:Nat=>(i:Int)).map D.int) ys:=by
  have N:∀{ds ys:List D},Dr (λd y=>y=d/\∃i,d= .int i) ds ys->Dr (λd y=>y=d) ds ys:=λh=>by
   induction h with
   |nil=>exact .nil
   |skip _ ih=>exact .skip ih
   |put p _ ih=>exact .put p.1 ih
  rw[Od];exact N W
 obtain⟨z,rfl,Y⟩:=X.subI;have U:z.length<=7:=by have:=Y.length_le;rw[NM,Oc]at this;omega
 refine⟨z,S1,?_,O3 Y (Oz.mpr (List.pairwise_lt_range.imp λh=>by omega)),λx R=>?_,k1,T⟩
 ·show(ae _ _ _>>=bY) S=_;rw[aR (dH e1 (es:=aj) rfl)];exact Oh (jC (by rw[NM];unfold lim;omega)) S1
 ·obtain⟨i,O,rfl⟩:=NY.mp (Y.subset R);exact⟨by omega,by have:=N0.mp O;omega⟩
theorem LK{z:List Int}(X:z.Pairwise (· <·))(Z:∀x∈z,0<=x/\x<n):z.length<=n:=by
 have:=mM (m:=(dq n).map λi:Nat=>(i:Int)) (X.imp λh e=>by omega) λx Y=>NY.mpr ⟨x.toNat,N0.mpr (by have:=Z x Y;omega),by have:=Z x Y;omega⟩
 rwa [NM,Oc]at this
theorem Fu(hs:fb S k)(X:n<=7)(w:WebOk n E):∃S1,iF (fu [.lst k,aw n E]) S=ar (.ok (.bl b_),S1)/\Kp k S S1/\S1.length=S.length:=by
 suffices H:∃S1,iQ [ar (.lst k),ar (aw n E),none,none,none,none,none] S=ar (.ok (.ret (.bl b_)),S1)/\Kp k S S1 by obtain⟨S1,e,F⟩:=H;exact uQ (c:=fu [.lst k,aw n E]) (d:=.bl b_) hs (fy (o:=.ret (.bl b_)) e rfl) F rfl
 have AM:=tq X w;have O:=J0 X w;have Z:∀T∈mP n E,Shr n E T:=λT U=>(jE X w).mp U;generalize mP n E=L at AM O Z;have Q:ae (aL (ak bh (ae (mV 1) aj))) (ae (aL (ak eY (ae (mV 1) aj))) aj) [ar (.lst k),ar (aw n E),none,none,none,none,none]=aC [.fz (L.map cV),lK n L]:=bq (d7 ((cz rfl).trans AM)) (bq (d7 ((cz rfl).trans O)) (es:=aj) rfl);have Y:zj id (lK n L) .non=aC (.bl L.isEmpty):=by cases L<;>rfl
 have I:d5 mW (aU (zj id) (mV 3) (mK .non)) (aU kH (mV 2) (aL (cX aj))) [ar (.lst k),ar (aw n E),ar (.fz (L.map cV)),ar (lK n L),none,none,none]=aC false:=bA ((bo rfl rfl).trans Y) ((bo rfl LJ).trans Hm) NG;obtain⟨W,R,P⟩:=yz X w (its:=L.map cV) (x0:=ar (.lst k)) (x2:=ar (.fz (L.map cV))) (x3:=ar (lK n L)) (x6:=none) L none none Z;have C:nz (bP (mV 2)) (gN 4) cP [ar (.lst k),ar (aw n E),ar (.fz (L.map cV)),ar (lK n L),none,none,none]=aC (.nx [ar (.lst k),ar (aw n E),ar (.fz (L.map cV)),ar (lK n L),W,R,none]):=by unfold nz;rw[show bP (mV 2) [ar (.lst k),ar (aw n E),ar (.fz (L.map cV)),ar (lK n L),none,none,none]=aC ⟨L.map cV,.none⟩from rfl,aq];exact P
 unfold iQ;have start:∀(c:cL) (o:Out) (S1:aK),c [ar (.lst k),ar (aw n E),ar (.fz (L.map cV)),ar (lK n L),W,R,none] S=ar (.ok o,S1)->aF (Gr 2 3 (ae (aL (ak bh (ae (mV 1) aj))) (ae (aL (ak eY (ae (mV 1) aj))) aj))) (aF (jb (d5 mW (aU (zj id) (mV 3) (mK .non)) (aU kH (mV 2) (aL (cX aj)))) (bE (mK (.bl c_))) dG) (aF (nz (bP (mV 2)) (gN 4) cP) c)) [ar (.lst k),ar (aw n E),none,none,none,none,none] S=ar (.ok o,S1):=λ_ _ _ h=>(aZ (JD (Oh Q S))).trans ((Oh (aI (iH I)) S).trans ((Oh (aI C) S).trans h))
 match L,Z,Y,start with
 |[],_,Y,start=>exact⟨S,start _ _ _ (Oh (fG ((b7 (b:=b_) (bA rfl rfl Y)).trans ((if_pos rfl).trans (bS rfl)))) S),.refl hs⟩
 | T::L,Z,Y,start=>
  have U:=Z T (.head _);obtain⟨z,S1,B,zr,K,G,v⟩:=Ho (E:=E) (S:=S) (r:=[ar (.fz ((T::L).map cV)),ar (lK n (T::L)),W,R,none]) hs X;refine⟨S1,start _ _ _ ?_,G⟩;have u:=LK zr K;have A:yP (d5 (zj (!·)) (aL (ak cY (ae (mV 1) (ae (mV 3) aj)))) (mK (.bl b_))) (d5 rX (aL (ak eX (ae (mV 1) (ae (mV 3) aj)))) (mV 2)) [ar (.lst k),ar (aw n E),ar (.fz ((T::L).map cV)),ar (lK n (T::L)),W,R,none]=aC false:=uU (b:=c_) (bA (d7 ((call2 (x:=aw n E) (y:=jK n T) rfl rfl).trans (wy X w U))) (y:=.bl b_) rfl rfl) λ_=>bA (d7 ((call2 (x:=aw n E) (y:=jK n T) rfl rfl).trans (yy X w U))) (y:=.fz ((T::L).map cV)) rfl (LI (.head _));refine(Oh (aI (iH (bA rfl rfl Y))) S).trans ((Oh (aI (iH A)) S).trans ((aZ (cg B)).trans (Oh (bS ?_) S1)));have J:=BC w zr;have hw:aL (ak mB (ae (mV 1) (ae (mV 6) aj))) [ar (.lst k),ar (aw n E),ar (.fz ((T::L).map cV)),ar (lK n (T::L)),W,R,ar (tupI z)]=aC (aw z.length (kF E z)):=d7 ((call2 rfl rfl).trans (E2 (by omega) w zr K (by omega)));refine(bo (d7 ((cz hw).trans (tq (by omega) J))) LJ).trans (Hn.trans ?_);have N:mP z.length (kF E z)≠[]:=λe=>by have:=(jE (n:=z.length) (by omega) J).mpr (Bu (Fo w zr K) J U);rw[e]at this;cases this
  cases hq:mP z.length (kF E z)with
  |nil=>exact(N hq).elim
  |cons a l=>rfl
end
theorem J2{e:TM}{ρ:aE}{S S1:aK}{b:Bool}(h:e ρ S=ar (.ok (.bl b),S1)):eQ (bV e) ρ S=ar (.ok (!b),S1):=by show((e ρ>>=_)>>=_) S=_;rw[aR (a:=b) (S1:=S1) (by rw[aR h];rfl)];rfl
theorem J3{S:aK}{ns:List Int}{i:Nat}{o2 o3 o4:Option D}:∃x2 x3 x4 S1,mI [ar (.ro (ns.map D.int)),ar (.int i),o2,o3,o4] S=ar (.ok (.nx [ar (.ro (ns.map D.int)),ar (.int i),x2,x3,x4]),S1):=by
 obtain⟨_,_,P,xs,rfl,rfl,hs⟩:=GP (S:=S) (ns:=ns) (k:=i) (Q:=λd I=>∃xs,d= .lst S.length/\I=S++[xs]/\fb (S++[xs]) S.length) λxs h=>⟨xs,rfl,rfl,h⟩;generalize S++[xs]=T0 at P hs;generalize S.length=k at P hs;obtain⟨n,E,W,e1,X,w,k1,B⟩:=some_at hs;obtain⟨zs,T,e2,N,k2,G⟩:=sT (n:=n) (e1:=mV 2) (e2:=aU b9 (mV 3) (mK (.int 0))) (ρ:=[ar (.ro (ns.map D.int)),ar (.int i),ar (.lst k),ar (aw n E),o4]) k1.st (by omega) rfl ((bo (x:=aw n E) (y:=.int 0) rfl rfl).trans rfl);have R:ak cI (ae (mV 3) (ae (aL (ak bb (ae (mV 2) (ae (aL (bX cD (aU b9 (mV 3) (mK (.int 0))))) aj)))) aj)) [ar (.ro (ns.map D.int)),ar (.int i),ar (.lst k),ar (aw n E),o4] W=ar (.ok (aw n (bc (E.map (qT zs)))),T):=by unfold ak;rw[aR (dH (x:=aw n E) (S1:=W) rfl (dH (S2:=T) e2 rfl))];exact Oh (Bb N (nq w)) T
 obtain⟨U,Z,k3,H⟩:=uQ k1.st R k2 sR;have Z:aL (ak cI (ae (mV 3) (ae (aL (ak bb (ae (mV 2) (ae (aL (bX cD (aU b9 (mV 3) (mK (.int 0))))) aj)))) aj))) [ar (.ro (ns.map D.int)),ar (.int i),ar (.lst k),ar (aw n E),o4] W=ar (.ok (aw n (bc (E.map (qT zs)))),U):=Z;have L:=sU N (nq w);have Y:=CG X w N;generalize bc (E.map (qT zs))=E' at Z L Y;obtain⟨O,K,C,F⟩:=Fu k3.st X w;have J:aL (ak fu (ae (mV 2) (ae (mV 3) aj))) [ar (.ro (ns.map D.int)),ar (.int i),ar (.lst k),ar (aw n E),ar (aw n E')] U=ar (.ok (.bl b_),O):=by show iF (ak _ _ _) U=_;rw[call2 (x:=.lst k) (y:=aw n E) rfl rfl];exact K
 have hlen:d5 mW (bX dj (aL (ak bh (ae (mV 4) aj)))) (bX dj (aL (ak bh (ae (mV 3) aj)))) [ar (.ro (ns.map D.int)),ar (.int i),ar (.lst k),ar (aw n E),ar (aw n E')]=aC false:=bA (sY (d7 ((cz rfl).trans (tq X L)))) (sY (d7 ((cz rfl).trans (tq X w)))) (by rw[NM,NM,Y,Lv,N1 rfl];rfl);refine⟨ar (.lst k),ar (aw n E),ar (aw n E'),O,?_⟩;unfold mI;refine(aZ (ρ':=[ar (.ro (ns.map D.int)),ar (.int i),ar (.lst k),o3,o4]) (S1:=T0) (cg (x:=.lst k) ?_)).trans ((aZ (ρ':=[ar (.ro (ns.map D.int)),ar (.int i),ar (.lst k),ar (aw n E),o4]) (S1:=W) (cg (x:=aw n E) ?_)).trans ((aZ (cg Z)).trans ((Eu (b:=c_) ?_).trans rfl)))
 ·rw[call2 (x:=.ro (ns.map D.int)) (y:=.int i) rfl rfl];exact P
 ·show iF (ak _ _ _) T0=_;rw[call2 (x:=.lst k) (y:=.int 7) rfl rfl];exact e1
 ·exact(aR (J2 J)).trans (Oh hlen O)
theorem yA{its:List D}{ns:List Int}:∀(ts:List Nat) (o1 o2 o3 o4:Option D) (S:aK),∃x1 x2 x3 x4 S1,gz ⟨its,.none⟩ (gN 1) mI (ts.map λi:Nat=>.int (0+(i:Int))) [ar (.ro (ns.map D.int)),o1,o2,o3,o4] S=ar (.ok (.nx [ar (.ro (ns.map D.int)),x1,x2,x3,x4]),S1)
 |[],o1,o2,o3,o4,S=>⟨o1,o2,o3,o4,S,by rw[Pl,lE];rfl⟩
 |t::ts,o1,o2,o3,o4,S=>by
  obtain⟨x2,x3,x4,S1,h⟩:=J3 (S:=S) (ns:=ns) (i:=t) (o2:=o2) (o3:=o3) (o4:=o4);obtain⟨U,W,X,Z,S2,Y⟩:=yA (its:=its) (ns:=ns) ts (ar (.int t)) x2 x3 x4 S1;refine⟨U,W,X,Z,S2,?_⟩;rw[On,Q5];exact(sL rfl h).trans Y
theorem LL{S:aK}{ns:List Int}:runs (uK [.ro (ns.map D.int)]) S (λd _=>d= .bl b_):=by
 have hm:ak minD (ae (bX dj (mV 0)) (ae (mK (.int 6)) aj)) [ar (.ro (ns.map D.int)),none,none,none,none]=aC (.int (if (6:Int)<(ns.map D.int).length then 6 else (ns.map D.int).length)):=(call2 (x:=.int (ns.map D.int).length) (y:=.int 6) rfl rfl).trans rfl;have Z:ak maxD (ae (mK (.int 1)) (ae (ak minD (ae (bX dj (mV 0)) (ae (mK (.int 6)) aj))) aj)) [ar (.ro (ns.map D.int)),none,none,none,none]=aC (.int (if (if (6:Int)<(ns.map D.int).length then (6:Int)else (ns.map D.int).length)>1 then (if (6:Int)<(ns.map D.int).length then 6 else (ns.map D.int).length)else 1)):=(call2 (x:=.int 1) rfl hm).trans rfl;generalize hn:(if (if (6:Int)<(ns.map D.int).length then (6:Int)else (ns.map D.int).length)>1 then (if (6:Int)<(ns.map D.int).length then (6:Int)else (ns.map D.int).length)else 1)=n at Z;have X:n<=6:=by rw[<-hn];split<;>split<;>omega
 have W:1<=n:=by rw[<-hn];split<;>split<;>omega
 have Y:=(vU Z).trans (GL (by omega));obtain⟨U,x2,x3,x4,S1,hf⟩:=yA (its:=bR 0 n.toNat) (ns:=ns) (dq n.toNat) none none none none S;refine⟨.bl b_,S1,fy (o:=.ret (.bl b_)) ?_ rfl,rfl⟩;unfold Em;exact(aZ (pY Y hf)).trans rfl
def top(i:Nat):Stmt:=PySem.Challenge.pw_tiewebs_k11_whole_sharings_and_roots.main.body.getD i (.Pass ⟨0,0,0,0⟩)
structure Txt(K:cC)(mg:Str->Option a_):Prop where
 err:su K=b_
 dk:MV K=b_
 b_all:mg "all"=none
 b_any:mg "any"=none
 b_bool:mg "bool"=none
 b_enumerate:mg "enumerate"=none
 b_int:mg "int"=none
 b_isinstance:mg "isinstance"=none
 b_len:mg "len"=none
 b_list:mg "list"=none
 b_max:mg "max"=none
 b_min:mg "min"=none
 b_range:mg "range"=none
 b_set:mg "set"=none
 b_sorted:mg "sorted"=none
 b_tuple:mg "tuple"=none
 b_zip:mg "zip"=none
 g_LEAST_CROWD:∃t,mg "LEAST_CROWD"=ar (.int 2 t)
 g_MOST_AT_A_PLACE:∃t,mg "MOST_AT_A_PLACE"=ar (.int 2 t)
 g_MOST_CROWDED:∃t,mg "MOST_CROWDED"=ar (.int 7 t)
 g_MOST_MAPPED:∃t,mg "MOST_MAPPED"=ar (.int 7 t)
 g_MOST_PLACES:∃t,mg "MOST_PLACES"=ar (.int 14 t)
 g_MOST_TIES:∃t,mg "MOST_TIES"=ar (.int 7 t)
theorem iZ{N P:List Str}{Z:Scope}(a:Z.kind= .function:=by exact rfl)(b:Z.isCoroutine=false:=by exact rfl)(c:Z.isGenerator=false:=by exact rfl)(d:N.Nodup:=by decide+kernel)(e:N.take P.length=P:=by exact rfl)(f:∀x∈P,Z.names.lookup x=ar .local\/Z.names.lookup x=ar .cell:=by decide+kernel)(g:∀y∈Z.names,y.2≠ .free:=by decide+kernel):FnScope N P Z:=⟨a,b,c,d,e,f,g⟩
theorem yB:FnScope ["thing"] ["thing"] (ai (top 9)):=iZ
theorem Ap:FnScope ["thing"] ["thing"] (ai (top 10)):=iZ
theorem wC:FnScope ["things"] ["things"] (ai (top 13)):=iZ
theorem yC:FnScope ["many"] ["many"] (ai (top 18)):=iZ
theorem yD:FnScope ["web","one","other"] ["web","one","other"] (ai (top 19)):=iZ
theorem qk:FnScope ["crowds","some"] ["crowds","some"] (ai (top 31)):=iZ
theorem wD:FnScope ["one","other"] ["one","other"] (ai (top 47)):=iZ
theorem qY:FnScope ["_law_script","_law_k"] ["_law_script","_law_k"] (ai (top 56)):=iZ
theorem iT:FnScope ["_law_state_here","_law_many","_law_found","_law_stirred"] ["_law_state_here","_law_many"] (ai (top 58)):=iZ
theorem kd:FnScope ["_law_many","_law_found","_law_a"] ["_law_many"] (ai (top 59)):=iZ
theorem iU:FnScope ["_law_web_here","_law_ties","_law_found","_law_a"] ["_law_web_here"] (ai (top 62)):=iZ
theorem t6:FnScope ["_law_web_here","_law_names"] ["_law_web_here","_law_names"] (ai (top 63)):=iZ
theorem yE:FnScope ["many","thing"] ["many","thing"] (ai (top 11)):=iZ
theorem Fv:FnScope ["web","some","place"] ["web","some","place"] (ai (top 26)):=iZ
theorem wF:FnScope ["taken","crowd"] ["taken","crowd"] (ai (top 34)):=iZ
theorem kf:FnScope ["many","sharing","alone","loose"] ["many","sharing"] (ai (top 37)):=iZ
theorem tx:FnScope ["one","other","start","place","at"] ["one","other","start","place"] (ai (top 42)):=iZ
theorem nH:FnScope ["_law_script","_law_k","_law_cell"] ["_law_script","_law_k"] (ai (top 57)):=iZ
theorem gx:FnScope ["_law_state_here","_law_things","_law_left","_law_found"] ["_law_state_here","_law_things"] (ai (top 60)):=iZ
theorem qm:FnScope ["many","thing","low","high"] ["many","thing"] (ai (top 12)):=iZ
theorem wG:FnScope ["many","thing"] ["many","thing"] (ai (top 14)):=iZ
theorem dI:FnScope ["_law_state_here","_law_most","_law_many","_law_way","_law_ties","_law_row","_law_at","_law_odd"] ["_law_state_here","_law_most"] (ai (top 61)):=iZ
theorem qo:FnScope ["thing","many","ties"] ["thing"] (ai (top 15)):=iZ
theorem tD:FnScope ["web","thing"] ["web","thing"] (ai (top 27)):=iZ
theorem wH:FnScope ["root","many","thing"] ["root","many","thing"] (ai (top 51)):=iZ
theorem bW:FnScope ["_law_state_here","_law_most","_law_way","_law_root","_law_web_here","_law_one","_law_other","_law_tie"] ["_law_state_here","_law_most"] (ai (top 64)):=iZ
theorem yF:FnScope ["thing"] ["thing"] (ai (top 16)):=iZ
theorem t7:FnScope ["web","thing"] ["web","thing"] (ai (top 32)):=iZ
theorem nW:FnScope ["web","most"] ["web","most"] (ai (top 17)):=iZ
theorem nX:FnScope ["web","many","ties"] ["web"] (ai (top 20)):=iZ
theorem nv:FnScope ["web","some","many","ties","kept"] ["web","some"] (ai (top 21)):=iZ
theorem qp:FnScope ["web"] ["web"] (ai (top 48)):=iZ
theorem qZ:FnScope ["web"] ["web"] (ai (top 25)):=iZ
theorem tE:FnScope ["one","other"] ["one","other"] (ai (top 41)):=iZ
theorem nY:FnScope ["web","ties","many"] ["web"] (ai (top 49)):=iZ
theorem kg:FnScope ["web","thing","many","ties"] ["web","thing"] (ai (top 33)):=iZ
theorem gX:FnScope ["web","thing","many","root","names"] ["web","thing"] (ai (top 52)):=iZ
theorem lH:FnScope ["web","sharing","many","holders","names"] ["web","sharing"] (ai (top 38)):=iZ
theorem iV:FnScope ["web","paper","root","names","holders"] ["web","paper"] (ai (top 54)):=iZ
theorem eP:FnScope ["one","other","start","many","place","found"] ["one","other","start"] (ai (top 43)):=iZ
theorem jF:FnScope ["web","start","found","place"] ["web","start"] (ai (top 28)):=iZ
theorem CH:FnScope ["one","other"] ["one","other"] (ai (top 44)):=iZ
theorem fw:FnScope ["web","taken","free","found","crowd"] ["web","taken"] (ai (top 35)):=iZ
theorem rf:FnScope ["web"] ["web"] (ai (top 36)):=iZ
theorem pq:FnScope ["web","sharings"] ["web"] (ai (top 53)):=iZ
theorem fJ:FnScope ["_law_state_here","_law_web_here","_law_sharings","_law_told","_law_sharing","_law_paper","_law_some"] ["_law_state_here","_law_web_here"] (ai (top 65)):=iZ
theorem tF:FnScope ["_law_script","_law_k","_law_state_here","_law_web_here","_law_other"] ["_law_script"] (ai (top 66)):=iZ
section
variable {P:dV}{w:d_}{K:cC}{mg:Str->Option a_}{base:eg}
theorem yG{f:b'}{X:eb}(F:Fun K "is_whole" "is_whole" (top 9) f X)(Y:mg "is_whole"=ar (.ref f))(T:Txt K mg):DefX P w K mg base 1 "is_whole" ["thing"] dM:=
 bC (m:=sA) F Y (F.binds λ_ _ _ _ _ _ us U=>match us,U with|[_],_=>rfl) yB rfl λZ A outer s H E S=>
  aH (aP (i6 (nN (Ts:="int") T.b_isinstance T.b_int (aa 0)) (lU (IS (nN (Ts:="bool") T.b_isinstance T.b_bool (aa 0))))))
theorem Aq{f:b'}{U:eb}(F:Fun K "is_pair" "is_pair" (top 10) f U)(X:mg "is_pair"=ar (.ref f))(T:Txt K mg):DefX P w K mg base 1 "is_pair" ["thing"] dg:=
 bC (m:=uI) F X (F.binds λ_ _ _ _ _ _ us S=>match us,S with|[_],_=>rfl) Ap rfl λY A outer s H E Z=>
  aH (aP (i6 (nN (Ts:="tuple") T.b_isinstance T.b_tuple (aa 0)) (lU (qy (dY Z) (dm T.b_len (aa 0)) aA))))
theorem wI{f:b'}{S:eb}(F:Fun K "is_rising" "is_rising" (top 13) f S)(U:mg "is_rising"=ar (.ref f))(T:Txt K mg):DefX P w K mg base 1 "is_rising" ["things"] cq:=
 bC (m:=qL) F U (F.binds λ_ _ _ _ _ _ us Z=>match us,Z with|[_],_=>rfl) wC rfl λX A outer s H E Y=>
  aH (aP (gE rfl T.b_all (ay (bu (t:=jd) (m:=je) (d6 (Nc:=["ahead","behind"]) (js:=[none,none]) (ai (top 13)) ["things"] (λ_=>rfl) rfl (by decide+kernel)) rfl (GE T.b_zip (aa 0) (ay (r0 (aa 0) (vB aA) vA))) (λC ex s2 R=>⟨fx rfl (ba (aJ 0 (show(["ahead","behind"]:List Str).Nodup by decide+kernel)) (ba (aJ 1 (show(["ahead","behind"]:List Str).Nodup by decide+kernel)) dR)),cf,Dw (HC Y) (aa 0) (aa 1)⟩)))))
theorem yH{f:b'}{U:eb}(F:Fun K "pairs_of" "pairs_of" (top 18) f U)(X:mg "pairs_of"=ar (.ref f))(T:Txt K mg):DefX P w K mg base 1 "pairs_of" ["many"] cO:=
 bC (m:=sC) F X (F.binds λ_ _ _ _ _ _ us Z=>match us,Z with|[_],_=>rfl) yC rfl λY A outer s H E R=>
  aH (aP (ay (D9 (t:=fB) (t2:=dN) (m:=cH) (d6 (Nc:=["low","high","many"]) (js:=[none,none,ar 0]) (ai (top 18)) ["many"] (λ_=>rfl) rfl (by decide+kernel)) rfl (de T.b_range (aa 0)) (λC ex s2 S=>⟨aJ 0 (show(["low","high","many"]:List Str).Nodup by decide+kernel),cf,kq T.b_range (eS (aa 0) aA) (aa 2),aJ 1 (show(["low","high","many"]:List Str).Nodup by decide+kernel),cf,cN (af (aa 0) (af (aa 1) ah ag) ag)⟩))))
theorem yI{f:b'}{U:eb}(F:Fun K "are_tied" "are_tied" (top 19) f U)(X:mg "are_tied"=ar (.ref f))(T:Txt K mg):DefX P w K mg base 1 "are_tied" ["web","one","other"] dv:=
 bC (m:=sD) F X (F.binds λ_ _ _ _ _ _ us S=>match us,S with|[_,_,_],_=>rfl) yD rfl λY A outer s H E Z=>
  aH (aP (uA (dY Z) (cN (af (zv rfl T.b_min (af (aa 1) (af (aa 2) ah ag) ag)) (af (vD rfl T.b_max (af (aa 1) (af (aa 2) ah ag) ag)) ah bH) bH)) (aN (aa 0) aA)))
theorem qr{f:b'}{R:eb}(F:Fun K "how_many_have" "how_many_have" (top 31) f R)(S:mg "how_many_have"=ar (.ref f))(T:Txt K mg):DefX P w K mg base 1 "how_many_have" ["crowds","some"] aX:=
 bC (m:=lJ) F S (F.binds λ_ _ _ _ _ _ us Y=>match us,Y with|[_,_],_=>rfl) qk rfl λU A outer s H E X=>
  aH (aP (dm T.b_len (ay (bu (t:=fW) (m:=fX) (d6 (Nc:=["crowd","some"]) (js:=[none,ar 1]) (ai (top 31)) ["crowds","some"] (λ_=>rfl) rfl (by decide+kernel)) rfl (cA (aa 0)) (λC ex s2 Z=>⟨aJ 0 (show(["crowd","some"]:List Str).Nodup by decide+kernel),dF (dh (gE rfl T.b_all (ay (bu (t:=fU) (m:=fV) (d6 (Nc:=["place","crowd"]) (js:=[none,ar 0]) _ ["crowd","some"] (λ_=>rfl) rfl rfl) rfl (cA (aa 1)) (λC ex s2 Z=>⟨aJ 0 (show(["place","crowd"]:List Str).Nodup by decide+kernel),cf,uA (dY X) (aa 0) (aa 1)⟩))))),aa 0⟩)))))
theorem wJ{f:b'}{S:eb}(F:Fun K "ties_meet" "ties_meet" (top 47) f S)(U:mg "ties_meet"=ar (.ref f))(T:Txt K mg):DefX P w K mg base 1 "ties_meet" ["one","other"] f9:=
 bC (m:=qM) F U (F.binds λ_ _ _ _ _ _ us Z=>match us,Z with|[_,_],_=>rfl) wD rfl λX A outer s H E Y=>
  aH (aP (D4 rfl T.b_any (ay (bu (t:=jf) (m:=jg) (d6 (Nc:=["place","other"]) (js:=[none,ar 1]) (ai (top 47)) ["one","other"] (λ_=>rfl) rfl (by decide+kernel)) rfl (cA (aa 0)) (λC ex s2 R=>⟨aJ 0 (show(["place","other"]:List Str).Nodup by decide+kernel),cf,uA (dY Y) (aa 0) (aa 1)⟩)))))
theorem rg{f:b'}{U:eb}(F:Fun K "_law_cell_at" "_law_cell_at" (top 56) f U)(X:mg "_law_cell_at"=ar (.ref f))(T:Txt K mg):DefX P w K mg base 1 "_law_cell_at" ["_law_script","_law_k"] eU:=
 bC (m:=mz) F X (F.binds λ_ _ _ _ _ _ us S=>match us,S with|[_,_],_=>rfl) qY rfl λY A outer s H E Z=>
  ax (cm (AJ (HC Z) (aa 1) (dm T.b_len (aa 0))) (aH (aP (aN (aa 0) (aa 1)))) bF) (aH (aP aA))
theorem wK{f:b'}{X:eb}(F:Fun K "_law_take" "_law_take" (top 58) f X)(Y:mg "_law_take"=ar (.ref f))(T:Txt K mg):DefX P w K mg base 1 "_law_take" ["_law_state_here","_law_many"] aV:=
 bC (m:=qN) F Y (F.binds λ_ _ _ _ _ _ us U=>match us,U with|[_,_],_=>rfl) iT rfl λZ A outer s H E S=>
  ax (cm (dh (aN (aa 0) aA)) (ax (bz 2 iT.nd (l9 (aN (aa 0) aA) (aa 1)) (hs:=oQ)) (ax (kQ (vy (aN (aa 0) aA) (aa 1)) (AL (aa 0) aA)) (aH (aP (aa 2))))) bF) (ax (kQ (l9 (eS (rW (aN (aa 0) aA) aA) aA) aA) (AL (aa 0) aA)) (ax (bz 3 iT.nd (l9 (eS (eS (rW (aN (aa 0) aA) (aN (aa 0) aA)) (rW aA (aN (aa 0) aA))) aA) aA) (hs:=oQ)) (ax (bz 3 iT.nd (l9 (eS (rW (aa 3) (aa 3)) (rW aA (aa 3))) aA) (hs:=oQ)) (aH (aP (l9 (vy (aa 3) aA) (aa 1)))))))
theorem t8{f:b'}{U:eb}(F:Fun K "_law_pairs" "_law_pairs" (top 59) f U)(X:mg "_law_pairs"=ar (.ref f))(T:Txt K mg):DefX P w K mg base 1 "_law_pairs" ["_law_many"] bj:=
 bC (m:=oU) F X (F.binds λ_ _ _ _ _ _ us Z=>match us,Z with|[_],_=>rfl) kd rfl λY A outer s H E R=>
  ax (bz 1 kd.nd (dJ ah) (hs:=oP)) (ax (lY (b:=ib) Pc rfl (de T.b_range (aa 0)) (aJ 2 kd.nd) (aH (cG (mY (aa 1) (ay (bu (t:=fM) (m:=fN) (d6 (Nc:=["_law_b","_law_a"]) (js:=[none,ar 2]) (ai (top 59)) ["_law_many","_law_found","_law_a"] (λ_=>rfl) rfl (by decide+kernel)) rfl (kq T.b_range (eS (aa 2) aA) (aa 0)) (λC ex s2 S=>⟨aJ 0 (show(["_law_b","_law_a"]:List Str).Nodup by decide+kernel),cf,cN (af (aa 1) (af (aa 0) ah ag) ag)⟩))))))) (aH (aP (aa 1))))
theorem wL{f:b'}{S:eb}(F:Fun K "_law_made" "_law_made" (top 62) f S)(U:mg "_law_made"=ar (.ref f))(T:Txt K mg):DefX P w K mg base 1 "_law_made" ["_law_web_here"] g6:=
 bC (m:=qO) F U (F.binds λ_ _ _ _ _ _ us Z=>match us,Z with|[_],_=>rfl) iU rfl λX A outer s H E Y=>
  ax (bz 1 iU.nd (aN (aa 0) aA) (hs:=gk)) (ax (bz 2 iU.nd (dJ ah) (hs:=oP)) (ax (lY (b:=jj) Pc rfl (de T.b_range (dm T.b_len (aa 1))) (aJ 3 iU.nd) (aH (cG (mY (aa 2) (ay (bu (t:=jh) (m:=ji) (d6 (Nc:=["_law_b","_law_ties","_law_a"]) (js:=[none,ar 1,ar 3]) (ai (top 62)) ["_law_web_here","_law_ties","_law_found","_law_a"] (λ_=>rfl) rfl (by decide+kernel)) rfl (kq T.b_range (eS (aa 3) aA) (dm T.b_len (aa 1))) (λC ex s2 R=>⟨aJ 0 (show(["_law_b","_law_ties","_law_a"]:List Str).Nodup by decide+kernel),dF (AJ (HC Y) (Cb rfl T.b_len T.b_set (ay (eS (aN (aa 1) (aa 2)) (aN (aa 1) (aa 0))))) aA),cN (af (aa 2) (af (aa 0) ah ag) ag)⟩))))))) (aH (aP (cN (af (dm T.b_len (aa 1)) (af (du T.b_tuple (aa 2)) ah bH) bH))))))
theorem t9{f:b'}{U:eb}(F:Fun K "_law_named" "_law_named" (top 63) f U)(X:mg "_law_named"=ar (.ref f))(T:Txt K mg):DefX P w K mg base 1 "_law_named" ["_law_web_here","_law_names"] cI:=
 bC (m:=oV) F X (F.binds λ_ _ _ _ _ _ us Z=>match us,Z with|[_,_],_=>rfl) t6 rfl λY A outer s H E R=>
  aH (aP (cN (af (aN (aa 0) aA) (af (du T.b_tuple (ay (eL T.b_sorted (ay (bu (t:=ic) (m:=ie) (d6 (Nc:=["_law_a","_law_b","_law_names"]) (js:=[none,none,ar 1]) (ai (top 63)) ["_law_web_here","_law_names"] (λ_=>rfl) rfl (by decide+kernel)) rfl (cA (aN (aa 0) aA)) (λC ex s2 S=>⟨fx rfl (ba (aJ 0 (show(["_law_a","_law_b","_law_names"]:List Str).Nodup by decide+kernel)) (ba (aJ 1 (show(["_law_a","_law_b","_law_names"]:List Str).Nodup by decide+kernel)) dR)),cf,du T.b_tuple (ay (eL T.b_sorted (ay (dJ (af (aN (aa 2) (aa 0)) (af (aN (aa 2) (aa 1)) ah aS) aS)))))⟩)))))) ah bH) aS)))
theorem yJ{f:b'}{S:eb}(F:Fun K "is_place" "is_place" (top 11) f S)(U:mg "is_place"=ar (.ref f))(T:Txt K mg)(Z:DefX P w K mg base 1 "is_whole" ["thing"] dM):DefX P w K mg base 2 "is_place" ["many","thing"] fY:=
 bC (m:=sE) F U (F.binds λ_ _ _ _ _ _ us R=>match us,R with|[_,_],_=>rfl) yE rfl λX A outer s H E Y=>
  aH (aP (i6 (aB Z (Y.mono (by decide)) (af (aa 1) ah ag)) (lU (Dx Ay (C4.or (y0 (HC Y))) (kR λ_ _ _ _=>.bl _) zh aA (aa 1) (aa 0)))))
theorem Fw{f:b'}{R:eb}(F:Fun K "joins" "joins" (top 26) f R)(S:mg "joins"=ar (.ref f))(T:Txt K mg)(Z:DefX P w K mg base 1 "are_tied" ["web","one","other"] dv):DefX P w K mg base 2 "joins" ["web","some","place"] gm:=
 bC (m:=vT) F S (F.binds λ_ _ _ _ _ _ us Y=>match us,Y with|[_,_,_],_=>rfl) Fv rfl λU A outer s H E X=>
  aH (aP (gE rfl T.b_all (ay (bu (t:=nQ) (m:=nR) (d6 (Nc:=["other","web","place"]) (js:=[none,ar 0,ar 2]) (ai (top 26)) ["web","some","place"] (λ_=>rfl) rfl (by decide+kernel)) rfl (cA (aa 1)) (λC ex s2 Q=>⟨aJ 0 (show(["other","web","place"]:List Str).Nodup by decide+kernel),cf,ay (aB Z (X.mono (by decide)) (af (aa 1) (af (aa 0) (af (aa 2) ah ag) ag) ag))⟩)))))
theorem wO{f:b'}{Q:eb}(F:Fun K "goes_with" "goes_with" (top 34) f Q)(R:mg "goes_with"=ar (.ref f))(T:Txt K mg)(Z:DefX P w K mg base 1 "how_many_have" ["crowds","some"] aX):DefX P w K mg base 2 "goes_with" ["taken","crowd"] eV:=
 bC (m:=jO) F R (F.binds λ_ _ _ _ _ _ us U=>match us,U with|[_,_],_=>rfl) wF rfl λS A outer s H E Y=>
  ax (cm (dh (D4 rfl T.b_any (ay (bu (t:=jk) (m:=jl) (d6 (Nc:=["place","taken"]) (js:=[none,ar 0]) (ai (top 34)) ["taken","crowd"] (λ_=>rfl) rfl (by decide+kernel)) rfl (cA (aa 1)) (λC ex s2 X=>⟨aJ 0 (show(["place","taken"]:List Str).Nodup by decide+kernel),cf,qy (dY Y) (ay (aB Z (Y.mono (by decide)) (af (aa 1) (af (cN (af (aa 0) ah ag)) ah gZ) ag))) (eT rfl T.g_MOST_AT_A_PLACE)⟩))))) (aH (aP eF)) bF) (aH (aP (gE rfl T.b_all (ay (bu (t:=jq) (m:=jr) (d6 (Nc:=["other","crowd"]) (js:=[none,ar 1]) (ai (top 34)) ["taken","crowd"] (λ_=>rfl) rfl (by decide+kernel)) rfl (cA (aa 0)) (λC ex s2 X=>⟨aJ 0 (show(["other","crowd"]:List Str).Nodup by decide+kernel),cf,Dw (HC Y) (dm T.b_len (ay (bu (t:=jm) (m:=jo) (d6 (Nc:=["place","other"]) (js:=[none,ar 0]) _ ["other","crowd"] (λ_=>rfl) rfl rfl) rfl (cA (aa 1)) (λC ex s2 X=>⟨aJ 0 (show(["place","other"]:List Str).Nodup by decide+kernel),dF (rZ (dY Y) (aa 0) (aa 1)),aa 0⟩)))) aA⟩))))))
theorem ua{f:b'}{Q:eb}(F:Fun K "holders_of" "holders_of" (top 37) f Q)(R:mg "holders_of"=ar (.ref f))(T:Txt K mg)(Z:DefX P w K mg base 1 "how_many_have" ["crowds","some"] aX):DefX P w K mg base 2 "holders_of" ["many","sharing"] iM:=
 bC (m:=iL) F R (F.binds λ_ _ _ _ _ _ us U=>match us,U with|[_,_],_=>rfl) kf rfl λS A outer s H E Y=>
  ax (ky (gD 2 (t:=ig) (m:=ij) kf.nd (d6 (Nc:=["place","sharing"]) (js:=[none,ar 1]) (ai (top 37)) ["many","sharing","alone","loose"] (λ_=>rfl) rfl (by decide+kernel)) rfl (de T.b_range (aa 0)) (λC ex s2 X=>⟨aJ 0 (show(["place","sharing"]:List Str).Nodup by decide+kernel),dF (qz (dY Y) (ay (aB Z (Y.mono (by decide)) (af (aa 1) (af (cN (af (aa 0) ah ag)) ah gZ) ag))) aA),aa 0⟩))) (ax (ky (gD 3 (t:=ik) (m:=il) kf.nd (d6 (Nc:=["place","sharing"]) (js:=[none,ar 1]) (ai (top 37)) ["many","sharing","alone","loose"] (λ_=>rfl) rfl (by decide+kernel)) rfl (de T.b_range (aa 0)) (λC ex s2 X=>⟨aJ 0 (show(["place","sharing"]:List Str).Nodup by decide+kernel),dF (qz (dY Y) (ay (aB Z (Y.mono (by decide)) (af (aa 1) (af (cN (af (aa 0) ah ag)) ah gZ) ag))) aA),aa 0⟩))) (aH (aP (ay (eS (aa 1) (ay (bu (t:=ip) (m:=iq) (d6 (Nc:=["place"]) (js:=[none]) (ai (top 37)) ["many","sharing","alone","loose"] (λ_=>rfl) rfl (by decide+kernel)) rfl (cA (ay (eS (aa 2) (ay (eL T.b_sorted (ay (eS (aa 3) (aa 3)))))))) (λC ex s2 X=>⟨aJ 0 (show(["place"]:List Str).Nodup by decide+kernel),cf,cN (af (aa 0) ah ag)⟩))))))))
theorem Ar{f:b'}{R:eb}(F:Fun K "goes_on" "goes_on" (top 42) f R)(S:mg "goes_on"=ar (.ref f))(T:Txt K mg)(Z:DefX P w K mg base 1 "are_tied" ["web","one","other"] dv):DefX P w K mg base 2 "goes_on" ["one","other","start","place"] gc:=
 bC (m:=pV) F S (F.binds λ_ _ _ _ _ _ us X=>match us,X with|[_,_,_,_],_=>rfl) tx rfl λU A outer s H E Y=>
  ax (bz 4 tx.nd (dm T.b_len (aa 2)) (hs:=cM)) (ax (cm (rZ (dY Y) (aa 3) (aa 2)) (aH (aP eF)) bF) (aH (aP (gE rfl T.b_all (ay (bu (t:=lg) (m:=lh) (d6 (Nc:=["ahead","one","at","other","start","place"]) (js:=[none,ar 0,ar 4,ar 1,ar 2,ar 3]) (ai (top 42)) ["one","other","start","place","at"] (λ_=>rfl) rfl (by decide+kernel)) rfl (de T.b_range (aa 4)) (λC ex s2 Q=>⟨aJ 0 (show(["ahead","one","at","other","start","place"]:List Str).Nodup by decide+kernel),cf,qy (dY Y) (ay (aB Z (Y.mono (by decide)) (af (aa 1) (af (aa 0) (af (aa 2) ah ag) ag) ag))) (ay (aB Z (Y.mono (by decide)) (af (aa 3) (af (aN (aa 4) (aa 0)) (af (aa 5) ah ag) aS) ag)))⟩)))))))
theorem ub{f:b'}{S:eb}(F:Fun K "_law_state" "_law_state" (top 57) f S)(U:mg "_law_state"=ar (.ref f))(T:Txt K mg)(Z:DefX P w K mg base 1 "_law_cell_at" ["_law_script","_law_k"] eU):DefX P w K mg base 2 "_law_state" ["_law_script","_law_k"] iN:=
 bC (m:=oW) F U (F.binds λ_ _ _ _ _ _ us R=>match us,R with|[_,_],_=>rfl) nH rfl λX A outer s H E Y=>
  ax (bz 2 nH.nd (aB Z (Y.mono (by decide)) (af (aa 0) (af (aa 1) ah ag) ag)) (hs:=cM)) (ax (cm (Dv (aa 2) (Dt aA aA)) (aH (aP (dJ (af (nM (aa 2) (Dt aA aA)) (af eF ah aQ) fA)))) bF) (aH (aP (dJ (af (l9 (aa 2) aA) (af eF ah aQ) fA)))))
theorem pA{f:b'}{S:eb}(F:Fun K "_law_mixed_row" "_law_mixed_row" (top 60) f S)(U:mg "_law_mixed_row"=ar (.ref f))(T:Txt K mg)(Z:DefX P w K mg base 1 "_law_take" ["_law_state_here","_law_many"] aV):DefX P w K mg base 2 "_law_mixed_row" ["_law_state_here","_law_things"] bb:=
 bC (m:=fi) F U (F.binds λ_ _ _ _ _ _ us R=>match us,R with|[_,_],_=>rfl) gx rfl λX A outer s H E Y=>
  ax (bz 2 gx.nd (Gk T.b_list (aa 1)) (hs:=cM)) (ax (bz 3 gx.nd (dJ ah) (hs:=oP)) (ax (Dp (b:=cT) 64 Pc (qA (dY Y) (aa 2) (ay (dJ ah))) (aH (cG (pO (aa 3) (DH (aa 2) (ay (aB Z (Y.mono (by decide)) (af (aa 0) (af (dm T.b_len (aa 2)) ah bH) ag)))))))) (aH (aP (aa 3)))))
theorem CI{f:b'}{R:eb}(F:Fun K "is_tie" "is_tie" (top 12) f R)(S:mg "is_tie"=ar (.ref f))(T:Txt K mg)(Y:DefX P w K mg base 1 "is_pair" ["thing"] dg)(Z:DefX P w K mg base 2 "is_place" ["many","thing"] fY):DefX P w K mg base 3 "is_tie" ["many","thing"] kz:=
 bC (m:=sF) F S (F.binds λ_ _ _ _ _ _ us Q=>match us,Q with|[_,_],_=>rfl) qm rfl λU A outer s H E X=>
  ax (cm (ec (dh (aB Y (X.mono (by decide)) (af (aa 1) ah ag)))) (aH (aP eF)) bF) (ax (kQ (aa 1) (fx rfl (ba (aJ 2 qm.nd) (ba (aJ 3 qm.nd) dR)))) (aH (aP (i6 (aB Z (X.mono (by decide)) (af (aa 0) (af (aa 2) ah ag) ag)) (i6 (aB Z (X.mono (by decide)) (af (aa 0) (af (aa 3) ah ag) ag)) (lU (Dw (HC X) (aa 2) (aa 3))))))))
theorem wQ{f:b'}{Q:eb}(F:Fun K "is_places" "is_places" (top 14) f Q)(R:mg "is_places"=ar (.ref f))(T:Txt K mg)(Y:DefX P w K mg base 2 "is_place" ["many","thing"] fY)(Z:DefX P w K mg base 1 "is_rising" ["things"] cq):DefX P w K mg base 3 "is_places" ["many","thing"] d9:=
 bC (m:=qP) F R (F.binds λ_ _ _ _ _ _ us U=>match us,U with|[_,_],_=>rfl) wG rfl λS A outer s H E X=>
  aH (aP (i6 (nN (Ts:="tuple") T.b_isinstance T.b_tuple (aa 1)) (i6 (gE rfl T.b_all (ay (bu (t:=jt) (m:=ju) (d6 (Nc:=["place","many"]) (js:=[none,ar 0]) (ai (top 14)) ["many","thing"] (λ_=>rfl) rfl (by decide+kernel)) rfl (cA (aa 1)) (λC ex s2 O=>⟨aJ 0 (show(["place","many"]:List Str).Nodup by decide+kernel),cf,ay (aB Y (X.mono (by decide)) (af (aa 1) (af (aa 0) ah ag) ag))⟩)))) (lU (ay (aB Z (X.mono (by decide)) (af (aa 1) ah ag)))))))
theorem yK{f:b'}{N:eb}(F:Fun K "_law_web" "_law_web" (top 61) f N)(O:mg "_law_web"=ar (.ref f))(T:Txt K mg)(Z:DefX P w K mg base 1 "_law_take" ["_law_state_here","_law_many"] aV)(Y:DefX P w K mg base 1 "_law_pairs" ["_law_many"] bj)(X:DefX P w K mg base 2 "_law_mixed_row" ["_law_state_here","_law_things"] bb):DefX P w K mg base 3 "_law_web" ["_law_state_here","_law_most"] gG:=
 bC (m:=lj) F O (F.binds λ_ _ _ _ _ _ us R=>match us,R with|[_,_],_=>rfl) dI rfl λQ A outer s H E U=>
  ax (bz 2 dI.nd (vD rfl T.b_max (af aA (af (nM (aa 1) (aN (ay (dJ (by (refine @cR _ _ _ _ _ _ aA ?_ aQ;refine @cR _ _ _ _ _ _ aA ?_ aQ;refine @cR _ _ _ _ _ _ aA ?_ aQ;refine @cR _ _ _ _ _ _ aA ?_ aQ;refine @cR _ _ _ _ _ _ aA ?_ aQ;refine @cR _ _ _ _ _ _ aA ?_ aQ;refine @cR _ _ _ _ _ _ aA ?_ aQ;refine @cR _ _ _ _ _ _ (aa 1) ?_ ag;exact ah)))) (ay (aB Z (U.mono (by decide)) (af (aa 0) (af aA ah aQ) ag))))) ah fA) aQ)) (hs:=cM)) (ax (bz 3 dI.nd (ay (aB Z (U.mono (by decide)) (af (aa 0) (af aA ah aQ) ag))) (hs:=cM)) (ax (bz 4 dI.nd (bu (t:=kb) (m:=kc) (d6 (Nc:=["_law_tie","_law_state_here","_law_way"]) (js:=[none,ar 0,ar 3]) (ai (top 61)) ["_law_state_here","_law_most","_law_many","_law_way","_law_ties","_law_row","_law_at","_law_odd"] (λ_=>rfl) rfl (by decide+kernel)) rfl (cA (ay (aB Y (U.mono (by decide)) (af (aa 2) ah ag)))) (λC ex s2 S=>⟨aJ 0 (show(["_law_tie","_law_state_here","_law_way"]:List Str).Nodup by decide+kernel),dF (AJ (HC U) (ay (aB Z (U.mono (by decide)) (af (aa 1) (af aA ah aQ) ag))) (aN (ay (dJ (af aA (af aA (af aA ah aQ) aQ) aQ))) (l9 (aa 2) aA))),aa 0⟩))) (ax (bz 5 dI.nd (ay (aB X (U.mono (by decide)) (af (aa 0) (af (ay (kU rfl T.b_list T.b_range (aa 2))) ah bH) ag))) (hs:=cM)) (ax (cm (uz (aa 3) aA) (ax (bz 4 dI.nd (dJ ah) (hs:=oP)) (ax (lY (b:=gP) Pc rfl (kq T.b_range aA (aa 2)) (aJ 6 dI.nd) (aH (cG (pO (aa 4) (du T.b_tuple (ay (eL T.b_sorted (ay (dJ (af (aN (aa 5) (aa 6)) (af (aN (aa 5) (aN (ay (dJ (by (refine @cR _ _ _ _ _ _ (nM (aa 6) aA) ?_ fA;refine @cR _ _ _ _ _ _ (nM (aa 6) aA) ?_ fA;refine @cR _ _ _ _ _ _ aA ?_ aQ;refine @cR _ _ _ _ _ _ (vy (aa 6) aA) ?_ fA;exact ah)))) (nM (aa 3) aA))) ah aS) aS)))))))))) (ax (cm (rV (zd (qz (dY U) (aa 3) aA) (vw (uz (aa 2) aA)))) (aH (cG (pO (aa 4) (du T.b_tuple (ay (eL T.b_sorted (ay (dJ (af (aN (aa 5) aA) (af (aN (aa 5) (nM (aa 2) aA)) ah aS) aS))))))))) bF) (ax (bz 7 dI.nd (ay (bu (t:=fC) (m:=fD) (d6 (Nc:=["_law_tie","_law_state_here"]) (js:=[none,ar 0]) (ai (top 61)) ["_law_state_here","_law_most","_law_many","_law_way","_law_ties","_law_row","_law_at","_law_odd"] (λ_=>rfl) rfl (by decide+kernel)) rfl (cA (ay (aB Y (U.mono (by decide)) (af (aa 2) ah ag)))) (λC ex s2 S=>⟨aJ 0 (show(["_law_tie","_law_state_here"]:List Str).Nodup by decide+kernel),dF (qz (dY U) (ay (aB Z (U.mono (by decide)) (af (aa 1) (af aA ah aQ) ag))) aA),aa 0⟩)))) (aH (bz 4 dI.nd (bu (t:=gQ) (m:=gR) (d6 (Nc:=["_law_tie","_law_ties","_law_odd"]) (js:=[none,ar 4,ar 7]) (ai (top 61)) ["_law_state_here","_law_most","_law_many","_law_way","_law_ties","_law_row","_law_at","_law_odd"] (λ_=>rfl) rfl (by decide+kernel)) rfl (cA (ay (aB Y (U.mono (by decide)) (af (aa 2) ah ag)))) (λC ex s2 S=>⟨aJ 0 (show(["_law_tie","_law_ties","_law_odd"]:List Str).Nodup by decide+kernel),dF (qA (dY U) (uA (dY U) (aa 0) (aa 1)) (uA (dY U) (aa 0) (aa 2))),aa 0⟩)))))))) bF) (aH (aP (cN (af (aa 2) (af (du T.b_tuple (ay (eL T.b_sorted (aa 4)))) ah bH) ag))))))))
theorem CJ{f:b'}{N:eb}(F:Fun K "is_web" "is_web" (top 15) f N)(O:mg "is_web"=ar (.ref f))(T:Txt K mg)(Y:DefX P w K mg base 1 "is_whole" ["thing"] dM)(X:DefX P w K mg base 1 "is_pair" ["thing"] dg)(U:DefX P w K mg base 3 "is_tie" ["many","thing"] kz)(Z:DefX P w K mg base 1 "is_rising" ["things"] cq):DefX P w K mg base 4 "is_web" ["thing"] g9:=
 bC (m:=sG) F O (F.binds λ_ _ _ _ _ _ us R=>match us,R with|[_],_=>rfl) qo rfl λQ A outer s H E S=>
  ax (cm (ec (dh (ay (aB X (S.mono (by decide)) (af (aa 0) ah ag))))) (aH (aP eF)) bF) (ax (kQ (aa 0) (fx rfl (ba (aJ 1 qo.nd) (ba (aJ 2 qo.nd) dR)))) (ax (cm (rV (oA (ec (dh (ay (aB Y (S.mono (by decide)) (af (aa 1) ah ag))))) (oA (ec (Dy Ay Ay (kR λ_ _ _ _=>.bl _) (kR λ_ _ _ _=>.bl _) aA (aa 1) (eT rfl T.g_MOST_PLACES))) (lV (ec (dh (nN (Ts:="tuple") T.b_isinstance T.b_tuple (aa 2)))))))) (aH (aP eF)) bF) (aH (aP (i6 (gE rfl T.b_all (ay (bu (t:=jP) (m:=jQ) (d6 (Nc:=["tie","many"]) (js:=[none,ar 1]) (ai (top 15)) ["thing","many","ties"] (λ_=>rfl) rfl (by decide+kernel)) rfl (cA (aa 2)) (λC ex s2 L=>⟨aJ 0 (show(["tie","many"]:List Str).Nodup by decide+kernel),cf,ay (aB U (S.mono (by decide)) (af (aa 1) (af (aa 0) ah ag) ag))⟩)))) (lU (ay (aB Z (S.mono (by decide)) (af (aa 2) ah ag)))))))))
theorem tG{f:b'}{Q:eb}(F:Fun K "crowd_holds" "crowd_holds" (top 27) f Q)(R:mg "crowd_holds"=ar (.ref f))(T:Txt K mg)(Z:DefX P w K mg base 3 "is_places" ["many","thing"] d9)(Y:DefX P w K mg base 2 "joins" ["web","some","place"] gm):DefX P w K mg base 4 "crowd_holds" ["web","thing"] gS:=
 bC (m:=nD) F R (F.binds λ_ _ _ _ _ _ us U=>match us,U with|[_,_],_=>rfl) tD rfl λS A outer s H E X=>
  ax (cm (rV (oA (ec (dh (ay (aB Z (X.mono (by decide)) (af (aN (aa 0) aA) (af (aa 1) ah ag) aS))))) (lV (AJ (HC X) (dm T.b_len (aa 1)) (eT rfl T.g_LEAST_CROWD))))) (aH (aP eF)) bF) (aH (aP (gE rfl T.b_all (ay (bu (t:=gH) (m:=gI) (d6 (Nc:=["at","place","web","thing"]) (js:=[none,none,ar 0,ar 1]) (ai (top 27)) ["web","thing"] (λ_=>rfl) rfl (by decide+kernel)) rfl (vS T.b_enumerate (aa 1)) (λC ex s2 O=>⟨fx rfl (ba (aJ 0 (show(["at","place","web","thing"]:List Str).Nodup by decide+kernel)) (ba (aJ 1 (show(["at","place","web","thing"]:List Str).Nodup by decide+kernel)) dR)),cf,ay (aB Y (X.mono (by decide)) (af (aa 2) (af (ay (r0 (aa 3) vA (vB (aa 0)))) (af (aa 1) ah ag) aS) ag))⟩))))))
theorem wU{f:b'}{R:eb}(F:Fun K "are_names" "are_names" (top 51) f R)(S:mg "are_names"=ar (.ref f))(T:Txt K mg)(Z:DefX P w K mg base 3 "is_tie" ["many","thing"] kz):DefX P w K mg base 4 "are_names" ["root","many","thing"] jS:=
 bC (m:=jR) F S (F.binds λ_ _ _ _ _ _ us X=>match us,X with|[_,_,_],_=>rfl) wH rfl λU A outer s H E Y=>
  ax (cm (rV (oA (ec (dh (nN (Ts:="tuple") T.b_isinstance T.b_tuple (aa 2)))) (lV (qA (dY Y) (dm T.b_len (aa 2)) (aa 1))))) (aH (aP eF)) bF) (aH (aP (i6 (gE rfl T.b_all (ay (bu (t:=jv) (m:=jw) (d6 (Nc:=["name","root"]) (js:=[none,ar 0]) (ai (top 51)) ["root","many","thing"] (λ_=>rfl) rfl (by decide+kernel)) rfl (cA (aa 2)) (λC ex s2 Q=>⟨aJ 0 (show(["name","root"]:List Str).Nodup by decide+kernel),cf,ay (aB Z (Y.mono (by decide)) (af (aN (aa 1) aA) (af (aa 0) ah ag) aS))⟩)))) (lU (qy (dY Y) (du T.b_tuple (ay (zX T.b_sorted (aa 2)))) (aN (aa 0) aA))))))
theorem qs{f:b'}{J:eb}(F:Fun K "_law_some_web" "_law_some_web" (top 64) f J)(L:mg "_law_some_web"=ar (.ref f))(T:Txt K mg)(Z:DefX P w K mg base 1 "_law_take" ["_law_state_here","_law_many"] aV)(U:DefX P w K mg base 1 "_law_pairs" ["_law_many"] bj)(Y:DefX P w K mg base 2 "_law_mixed_row" ["_law_state_here","_law_things"] bb)(X:DefX P w K mg base 3 "_law_web" ["_law_state_here","_law_most"] gG)(R:DefX P w K mg base 1 "_law_made" ["_law_web_here"] g6)(S:DefX P w K mg base 1 "_law_named" ["_law_web_here","_law_names"] cI):DefX P w K mg base 4 "_law_some_web" ["_law_state_here","_law_most"] eG:=
 bC (m:=fO) F L (F.binds λ_ _ _ _ _ _ us O=>match us,O with|[_,_],_=>rfl) bW rfl λN A outer s H E Q=>
  ax (bz 2 bW.nd (ay (aB Z (Q.mono (by decide)) (af (aa 0) (af aA ah aQ) ag))) (hs:=cM)) (ax (cm (qz (dY Q) (aa 2) aA) (aH (aP (ay (aB X (Q.mono (by decide)) (af (aa 0) (af (aa 1) ah ag) ag))))) bF) (ax (bz 3 bW.nd (ay (aB X (Q.mono (by decide)) (af (aa 0) (af aA ah aQ) ag))) (hs:=cM)) (ax (bz 4 bW.nd (ay (aB R (Q.mono (by decide)) (af (cN (af (aN (aa 3) aA) (af (ay (r0 (aN (aa 3) aA) vA (vB (aa 1)))) ah aS) aS)) ah gZ))) (hs:=cM)) (ax (bz 4 bW.nd (ay (aB S (Q.mono (by decide)) (af (aa 4) (af (ay (aB Y (Q.mono (by decide)) (af (aa 0) (af (ay (kU rfl T.b_list T.b_range (aN (aa 4) aA))) ah bH) ag))) ah bH) ag))) (hs:=cM)) (ax (cm (rV (zd (qz (dY Q) (aa 2) aA) (vw (uz (aN (aa 4) aA) aA)))) (ax (bz 5 bW.nd (ay (aB Z (Q.mono (by decide)) (af (aa 0) (af (aN (aa 4) aA) ah aS) ag))) (hs:=cM)) (ax (bz 6 bW.nd (l9 (eS (eS (aa 5) aA) (ay (aB Z (Q.mono (by decide)) (af (aa 0) (af (nM (aN (aa 4) aA) aA) ah fA) ag)))) (aN (aa 4) aA)) (hs:=oQ)) (ax (bz 7 bW.nd (cN (af (zv rfl T.b_min (af (aa 5) (af (aa 6) ah ag) ag)) (af (vD rfl T.b_max (af (aa 5) (af (aa 6) ah ag) ag)) ah bH) bH)) (hs:=xH)) (aH (bz 4 bW.nd (cN (af (aN (aa 4) aA) (af (du T.b_tuple (ay (bu (t:=eh) (m:=ez) (d6 (Nc:=["_law_old","_law_web_here","_law_tie"]) (js:=[none,ar 4,ar 7]) (ai (top 64)) ["_law_state_here","_law_most","_law_way","_law_root","_law_web_here","_law_one","_law_other","_law_tie"] (λ_=>rfl) rfl (by decide+kernel)) rfl (cA (ay (aB U (Q.mono (by decide)) (af (aN (aa 4) aA) ah aS)))) (λC ex s2 I=>⟨aJ 0 (show(["_law_old","_law_web_here","_law_tie"]:List Str).Nodup by decide+kernel),dF (qA (dY Q) (uA (dY Q) (aa 0) (aN (aa 1) aA)) (qy (dY Q) (aa 0) (aa 2))),aa 0⟩)))) ah bH) aS)) (hs:=xH)))))) bF) (aH (aP (aa 4))))))))
theorem yL{f:b'}{S:eb}(F:Fun K "need_web" "need_web" (top 16) f S)(U:mg "need_web"=ar (.ref f))(T:Txt K mg)(Z:DefX P w K mg base 4 "is_web" ["thing"] g9):DefX P w K mg base 5 "need_web" ["thing"] bN:=
 ef (m:=sH) F U (F.binds λ_ _ _ _ _ _ us R=>match us,R with|[_],_=>rfl) yF rfl λX A outer s H E Y=>
  aH (cm (ec (dh (ay (br Z (Y.mono (by decide)) aM.pass (af (aa 0) ah ag))))) (aH (oO aM rfl T.err (by decide) (by decide) (af pL ah aQ))) bF)
theorem uc{f:b'}{Q:eb}(F:Fun K "are_crowds" "are_crowds" (top 32) f Q)(R:mg "are_crowds"=ar (.ref f))(T:Txt K mg)(Y:DefX P w K mg base 1 "is_rising" ["things"] cq)(Z:DefX P w K mg base 4 "crowd_holds" ["web","thing"] gS):DefX P w K mg base 5 "are_crowds" ["web","thing"] gn:=
 bC (m:=oX) F R (F.binds λ_ _ _ _ _ _ us U=>match us,U with|[_,_],_=>rfl) t7 rfl λS A outer s H E X=>
  aH (aP (i6 (nN (Ts:="list") T.b_isinstance T.b_list (aa 1)) (i6 (gE rfl T.b_all (ay (bu (t:=ir) (m:=iu) (d6 (Nc:=["crowd","web"]) (js:=[none,ar 0]) (ai (top 32)) ["web","thing"] (λ_=>rfl) rfl (by decide+kernel)) rfl (cA (aa 1)) (λC ex s2 O=>⟨aJ 0 (show(["crowd","web"]:List Str).Nodup by decide+kernel),cf,ay (aB Z (X.mono (by decide)) (af (aa 1) (af (aa 0) ah ag) ag))⟩)))) (lU (ay (aB Y (X.mono (by decide)) (af (aa 1) ah ag)))))))
theorem nZ{f:b'}{R:eb}(F:Fun K "need_few_places" "need_few_places" (top 17) f R)(U:mg "need_few_places"=ar (.ref f))(T:Txt K mg)(S:GrX P w K mg base)(Z:DefX P w K mg base 5 "need_web" ["thing"] bN):DefX P w K mg base 6 "need_few_places" ["web","most"] bZ:=
 ef (m:=jT) F U (F.binds λ_ _ _ _ _ _ us Q=>match us,Q with|[_,_],_=>rfl) nW rfl λX A outer s H E Y=>
  ax (cG (ay (br Z (Y.mono (by decide)) aM.pass (af (aa 0) ah ag)))) (aH (cm (uz (aN (aa 0) aA) (aa 1)) (aH (xS aM rfl T.err S (Y.mono (by decide)) (af (aN (aa 0) aA) (af (aa 1) ah ag) aS))) bF))
theorem As{f:b'}{Q:eb}(F:Fun K "degrees" "degrees" (top 20) f Q)(R:mg "degrees"=ar (.ref f))(T:Txt K mg)(Z:DefX P w K mg base 5 "need_web" ["thing"] bN):DefX P w K mg base 6 "degrees" ["web"] fj:=
 ef (m:=uJ) F R (F.binds λ_ _ _ _ _ _ us U=>match us,U with|[_],_=>rfl) nX rfl λS A outer s H E Y=>
  ax (cG (ay (br Z (Y.mono (by decide)) aM.pass (af (aa 0) ah ag)))) (ax (kQ (aa 0) (fx rfl (ba (aJ 1 nX.nd) (ba (aJ 2 nX.nd) dR)))) (aH (aP (ay (kY (bu (t:=lq) (m:=lr) (d6 (Nc:=["place","ties"]) (js:=[none,ar 2]) (ai (top 20)) ["web","many","ties"] (λ_=>rfl) rfl (by decide+kernel)) rfl (de T.b_range (aa 1)) (λC ex s2 X=>⟨aJ 0 (show(["place","ties"]:List Str).Nodup by decide+kernel),cf,dm T.b_len (ay (bu (t:=ll) (m:=lp) (d6 (Nc:=["tie","place"]) (js:=[none,ar 0]) _ ["place","ties"] (λ_=>rfl) rfl rfl) rfl (cA (aa 1)) (λC ex s2 X=>⟨aJ 0 (show(["tie","place"]:List Str).Nodup by decide+kernel),dF (rZ (dY Y) (aa 1) (aa 0)),aa 0⟩)))⟩)))))))
theorem CK{f:b'}{O:eb}(F:Fun K "within" "within" (top 21) f O)(Q:mg "within"=ar (.ref f))(T:Txt K mg)(Z:DefX P w K mg base 3 "is_places" ["many","thing"] d9)(Y:DefX P w K mg base 5 "need_web" ["thing"] bN):DefX P w K mg base 6 "within" ["web","some"] mB:=
 ef (m:=xW) F Q (F.binds λ_ _ _ _ _ _ us S=>match us,S with|[_,_],_=>rfl) nv rfl λR A outer s H E X=>
  ax (cG (ay (br Y (X.mono (by decide)) aM.pass (af (aa 0) ah ag)))) (ax (kQ (aa 0) (fx rfl (ba (aJ 2 nv.nd) (ba (aJ 3 nv.nd) dR)))) (ax (cm (ec (dh (ay (br Z (X.mono (by decide)) aM.pass (af (aa 2) (af (aa 1) ah ag) ag))))) (aH (oO aM rfl T.err (by decide) (by decide) (af pL ah aQ))) bF) (ax (vP (ky (gD 4 (t:=jU) (m:=jV) nv.nd (d6 (Nc:=["low","high","some"]) (js:=[none,none,ar 1]) (ai (top 21)) ["web","some","many","ties","kept"] (λ_=>rfl) rfl (by decide+kernel)) rfl (cA (aa 3)) (λC ex s2 U=>⟨fx rfl (ba (aJ 0 (show(["low","high","some"]:List Str).Nodup by decide+kernel)) (ba (aJ 1 (show(["low","high","some"]:List Str).Nodup by decide+kernel)) dR)),dF (rV (zd (rZ (dY X) (aa 0) (aa 2)) (vw (rZ (dY X) (aa 1) (aa 2))))),cN (af (aa 0) (af (aa 1) ah ag) ag)⟩)))) (aH (aP (cN (af (dm T.b_len (aa 1)) (af (du T.b_tuple (ay (kY (bu (t:=jW) (m:=jX) (d6 (Nc:=["low","high","some"]) (js:=[none,none,ar 1]) (ai (top 21)) ["web","some","many","ties","kept"] (λ_=>rfl) rfl (by decide+kernel)) rfl (cA (aa 4)) (λC ex s2 U=>⟨fx rfl (ba (aJ 0 (show(["low","high","some"]:List Str).Nodup by decide+kernel)) (ba (aJ 1 (show(["low","high","some"]:List Str).Nodup by decide+kernel)) dR)),cf,cN (af (xV (dY X) (aa 2) (aa 0)) (af (xV (dY X) (aa 2) (aa 1)) ah bH) bH)⟩))))) ah bH) bH)))))))
theorem qt{f:b'}{R:eb}(F:Fun K "need_few_ties" "need_few_ties" (top 48) f R)(U:mg "need_few_ties"=ar (.ref f))(T:Txt K mg)(S:GrX P w K mg base)(Z:DefX P w K mg base 5 "need_web" ["thing"] bN):DefX P w K mg base 6 "need_few_ties" ["web"] eH:=
 ef (m:=fP) F U (F.binds λ_ _ _ _ _ _ us Q=>match us,Q with|[_],_=>rfl) qp rfl λX A outer s H E Y=>
  ax (cG (ay (br Z (Y.mono (by decide)) aM.pass (af (aa 0) ah ag)))) (aH (cm (uz (dm T.b_len (aN (aa 0) aA)) (eT rfl T.g_MOST_TIES)) (aH (xS aM rfl T.err S (Y.mono (by decide)) (af (dm T.b_len (aN (aa 0) aA)) (af (eT rfl T.g_MOST_TIES) ah ag) bH))) bF))
theorem rh{f:b'}{S:eb}(F:Fun K "need_crowded" "need_crowded" (top 25) f S)(U:mg "need_crowded"=ar (.ref f))(T:Txt K mg)(Z:DefX P w K mg base 6 "need_few_places" ["web","most"] bZ):DefX P w K mg base 7 "need_crowded" ["web"] cK:=
 ef (m:=mC) F U (F.binds λ_ _ _ _ _ _ us R=>match us,R with|[_],_=>rfl) qZ rfl λX A outer s H E Y=>
  aH (cG (ay (br Z (Y.mono (by decide)) aM.pass (af (aa 0) (af (eT rfl T.g_MOST_CROWDED) ah ag) ag))))
theorem tH{f:b'}{R:eb}(F:Fun K "need_mapped" "need_mapped" (top 41) f R)(S:mg "need_mapped"=ar (.ref f))(T:Txt K mg)(Y:DefX P w K mg base 5 "need_web" ["thing"] bN)(Z:DefX P w K mg base 6 "need_few_places" ["web","most"] bZ):DefX P w K mg base 7 "need_mapped" ["one","other"] fE:=
 ef (m:=nE) F S (F.binds λ_ _ _ _ _ _ us Q=>match us,Q with|[_,_],_=>rfl) tE rfl λU A outer s H E X=>
  ax (cG (ay (br Y (X.mono (by decide)) aM.pass (af (aa 0) ah ag)))) (ax (cG (ay (br Y (X.mono (by decide)) aM.pass (af (aa 1) ah ag)))) (ax (cG (ay (br Z (X.mono (by decide)) aM.pass (af (aa 0) (af (eT rfl T.g_MOST_MAPPED) ah ag) ag)))) (aH (cG (ay (br Z (X.mono (by decide)) aM.pass (af (aa 1) (af (eT rfl T.g_MOST_MAPPED) ah ag) ag)))))))
theorem Au{f:b'}{O:eb}(F:Fun K "tie_web" "tie_web" (top 49) f O)(Q:mg "tie_web"=ar (.ref f))(T:Txt K mg)(X:DefX P w K mg base 1 "pairs_of" ["many"] cO)(Y:DefX P w K mg base 1 "ties_meet" ["one","other"] f9)(Z:DefX P w K mg base 6 "need_few_ties" ["web"] eH):DefX P w K mg base 7 "tie_web" ["web"] iX:=
 ef (m:=pW) F Q (F.binds λ_ _ _ _ _ _ us S=>match us,S with|[_],_=>rfl) nY rfl λR A outer s H E U=>
  ax (cG (ay (br Z (U.mono (by decide)) aM.pass (af (aa 0) ah ag)))) (ax (bz 1 nY.nd (aN (aa 0) aA) (hs:=gk)) (ax (bz 2 nY.nd (dm T.b_len (aa 1)) (hs:=cM)) (aH (aP (cN (af (aa 2) (af (du T.b_tuple (ay (kY (bu (t:=iO) (m:=iP) (d6 (Nc:=["low","high","ties"]) (js:=[none,none,ar 1]) (ai (top 49)) ["web","ties","many"] (λ_=>rfl) rfl (by decide+kernel)) rfl (cA (ay (aB X (U.mono (by decide)) (af (aa 2) ah ag)))) (λC ex s2 N=>⟨fx rfl (ba (aJ 0 (show(["low","high","ties"]:List Str).Nodup by decide+kernel)) (ba (aJ 1 (show(["low","high","ties"]:List Str).Nodup by decide+kernel)) dR)),dF (dh (ay (aB Y (U.mono (by decide)) (af (aN (aa 2) (aa 0)) (af (aN (aa 2) (aa 1)) ah aS) aS)))),cN (af (aa 0) (af (aa 1) ah ag) ag)⟩))))) ah bH) ag))))))
theorem ud{f:b'}{N:eb}(F:Fun K "is_sharing" "is_sharing" (top 33) f N)(O:mg "is_sharing"=ar (.ref f))(T:Txt K mg)(Y:DefX P w K mg base 7 "need_crowded" ["web"] cK)(Z:DefX P w K mg base 1 "how_many_have" ["crowds","some"] aX)(X:DefX P w K mg base 5 "are_crowds" ["web","thing"] gn):DefX P w K mg base 8 "is_sharing" ["web","thing"] eA:=
 ef (m:=oY) F O (F.binds λ_ _ _ _ _ _ us R=>match us,R with|[_,_],_=>rfl) kg rfl λQ A outer s H E U=>
  ax (cG (ay (br Y (U.mono (by decide)) aM.pass (af (aa 0) ah ag)))) (ax (cm (ec (dh (ay (br X (U.mono (by decide)) aM.pass (af (aa 0) (af (aa 1) ah ag) ag))))) (aH (aP eF)) bF) (ax (kQ (aa 0) (fx rfl (ba (aJ 2 kg.nd) (ba (aJ 3 kg.nd) dR)))) (ax (cm (ec (dh (gE rfl T.b_all (ay (kY (bu (t:=iw) (m:=iy) (d6 (Nc:=["tie","thing"]) (js:=[none,ar 1]) (ai (top 33)) ["web","thing","many","ties"] (λ_=>rfl) rfl (by decide+kernel)) rfl (cA (aa 3)) (λC ex s2 S=>⟨aJ 0 (show(["tie","thing"]:List Str).Nodup by decide+kernel),cf,qy (dY U) (ay (aB Z (U.mono (by decide)) (af (aa 1) (af (aa 0) ah ag) ag))) aA⟩))))))) (aH (aP eF)) bF) (aH (aP (gE rfl T.b_all (ay (kY (bu (t:=iz) (m:=iA) (d6 (Nc:=["place","thing"]) (js:=[none,ar 1]) (ai (top 33)) ["web","thing","many","ties"] (λ_=>rfl) rfl (by decide+kernel)) rfl (de T.b_range (aa 2)) (λC ex s2 S=>⟨aJ 0 (show(["place","thing"]:List Str).Nodup by decide+kernel),cf,K4 (ay (aB Z (U.mono (by decide)) (af (aa 1) (af (cN (af (aa 0) ah ag)) ah gZ) ag))) (eT rfl T.g_MOST_AT_A_PLACE)⟩))))))))))
theorem ue{f:b'}{I:eb}(F:Fun K "root_holds" "root_holds" (top 52) f I)(J:mg "root_holds"=ar (.ref f))(T:Txt K mg)(R:DefX P w K mg base 1 "is_pair" ["thing"] dg)(Q:DefX P w K mg base 4 "is_web" ["thing"] g9)(U:DefX P w K mg base 1 "pairs_of" ["many"] cO)(S:DefX P w K mg base 1 "are_tied" ["web","one","other"] dv)(Z:DefX P w K mg base 7 "need_crowded" ["web"] cK)(Y:DefX P w K mg base 1 "ties_meet" ["one","other"] f9)(X:DefX P w K mg base 4 "are_names" ["root","many","thing"] jS):DefX P w K mg base 8 "root_holds" ["web","thing"] cY:=
 ef (m:=lu) F J (F.binds λ_ _ _ _ _ _ us N=>match us,N with|[_,_],_=>rfl) gX rfl λL A outer s H E O=>
  ax (cG (ay (br Z (O.mono (by decide)) aM.pass (af (aa 0) ah ag)))) (ax (cm (ec (dh (ay (br R (O.mono (by decide)) aM.pass (af (aa 1) ah ag))))) (aH (aP eF)) bF) (ax (bz 2 gX.nd (aN (aa 0) aA) (hs:=gk)) (ax (kQ (aa 1) (fx rfl (ba (aJ 3 gX.nd) (ba (aJ 4 gX.nd) dR)))) (ax (cm (rV (oA (ec (dh (ay (br Q (O.mono (by decide)) aM.pass (af (aa 3) ah ag))))) (lV (ec (dh (ay (br X (O.mono (by decide)) aM.pass (af (aa 3) (af (aa 2) (af (aa 4) ah ag) ag) ag)))))))) (aH (aP eF)) bF) (aH (aP (gE rfl T.b_all (ay (kY (bu (t:=iB) (m:=iD) (d6 (Nc:=["low","high","web","names"]) (js:=[none,none,ar 0,ar 4]) (ai (top 52)) ["web","thing","many","root","names"] (λ_=>rfl) rfl (by decide+kernel)) rfl (cA (ay (aB U (O.mono (by decide)) (af (aa 2) ah ag)))) (λC ex s2 G=>⟨fx rfl (ba (aJ 0 (show(["low","high","web","names"]:List Str).Nodup by decide+kernel)) (ba (aJ 1 (show(["low","high","web","names"]:List Str).Nodup by decide+kernel)) dR)),cf,qy (dY O) (ay (aB S (O.mono (by decide)) (af (aa 2) (af (aa 0) (af (aa 1) ah ag) ag) ag))) (ay (aB Y (O.mono (by decide)) (af (aN (aa 3) (aa 0)) (af (aN (aa 3) (aa 1)) ah aS) aS)))⟩)))))))))))
theorem Av{f:b'}{O:eb}(F:Fun K "root_by" "root_by" (top 38) f O)(Q:mg "root_by"=ar (.ref f))(T:Txt K mg)(Y:DefX P w K mg base 8 "is_sharing" ["web","thing"] eA)(Z:DefX P w K mg base 2 "holders_of" ["many","sharing"] iM):DefX P w K mg base 9 "root_by" ["web","sharing"] gJ:=
 ef (m:=pX) F Q (F.binds λ_ _ _ _ _ _ us S=>match us,S with|[_,_],_=>rfl) lH rfl λR A outer s H E X=>
  ax (cm (ec (dh (ay (br Y (X.mono (by decide)) aM.pass (af (aa 0) (af (aa 1) ah ag) ag))))) (aH (oO aM rfl T.err (by decide) (by decide) (af pL ah aQ))) bF) (ax (bz 2 lH.nd (aN (aa 0) aA) (hs:=gk)) (ax (bz 3 lH.nd (ay (br Z (X.mono (by decide)) aM.pass (af (aa 2) (af (aa 1) ah ag) ag))) (hs:=cM)) (ax (vP (ky (gD 4 (t:=lz) (m:=lA) lH.nd (d6 (Nc:=["place","holders"]) (js:=[none,ar 3]) (ai (top 38)) ["web","sharing","many","holders","names"] (λ_=>rfl) rfl (by decide+kernel)) rfl (de T.b_range (aa 2)) (λC ex s2 U=>⟨aJ 0 (show(["place","holders"]:List Str).Nodup by decide+kernel),cf,du T.b_tuple (ay (bu (t:=oZ) (m:=o5) (d6 (Nc:=["at","holder","place"]) (js:=[none,none,ar 0]) _ ["place","holders"] (λ_=>rfl) rfl rfl) rfl (vS T.b_enumerate (aa 1)) (λC ex s2 U=>⟨fx rfl (ba (aJ 0 (show(["at","holder","place"]:List Str).Nodup by decide+kernel)) (ba (aJ 1 (show(["at","holder","place"]:List Str).Nodup by decide+kernel)) dR)),dF (rZ (dY X) (aa 2) (aa 1)),aa 0⟩)))⟩)))) (aH (aP (cN (af (cN (af (dm T.b_len (aa 3)) (af (du T.b_tuple (ay (eL T.b_sorted (aa 4)))) ah bH) bH)) (af (du T.b_tuple (aa 4)) ah bH) gZ)))))))
theorem wV{f:b'}{Q:eb}(F:Fun K "shared_by" "shared_by" (top 54) f Q)(R:mg "shared_by"=ar (.ref f))(T:Txt K mg)(Z:DefX P w K mg base 8 "root_holds" ["web","thing"] cY):DefX P w K mg base 9 "shared_by" ["web","paper"] eX:=
 ef (m:=mF) F R (F.binds λ_ _ _ _ _ _ us U=>match us,U with|[_,_],_=>rfl) iV rfl λS A outer s H E X=>
  ax (cm (ec (dh (ay (br Z (X.mono (by decide)) aM.pass (af (aa 0) (af (aa 1) ah ag) ag))))) (aH (oO aM rfl T.err (by decide) (by decide) (af pL ah aQ))) bF) (ax (kQ (aa 1) (fx rfl (ba (aJ 2 iV.nd) (ba (aJ 3 iV.nd) dR)))) (ax (vP (ky (gD 4 (t:=jx) (m:=jz) iV.nd (d6 (Nc:=["at","names"]) (js:=[none,ar 3]) (ai (top 54)) ["web","paper","root","names","holders"] (λ_=>rfl) rfl (by decide+kernel)) rfl (de T.b_range (aN (aa 2) aA)) (λC ex s2 Y=>⟨aJ 0 (show(["at","names"]:List Str).Nodup by decide+kernel),cf,du T.b_tuple (ay (bu (t:=mD) (m:=mE) (d6 (Nc:=["place","name","at"]) (js:=[none,none,ar 0]) _ ["at","names"] (λ_=>rfl) rfl rfl) rfl (vS T.b_enumerate (aa 1)) (λC ex s2 Y=>⟨fx rfl (ba (aJ 0 (show(["place","name","at"]:List Str).Nodup by decide+kernel)) (ba (aJ 1 (show(["place","name","at"]:List Str).Nodup by decide+kernel)) dR)),dF (rZ (dY X) (aa 2) (aa 1)),aa 0⟩)))⟩)))) (aH (aP (ay (eL T.b_sorted (ay (kY (bu (t:=gp) (m:=gq) (d6 (Nc:=["holder"]) (js:=[none]) (ai (top 54)) ["web","paper","root","names","holders"] (λ_=>rfl) rfl (by decide+kernel)) rfl (cA (aa 4)) (λC ex s2 Y=>⟨aJ 0 (show(["holder"]:List Str).Nodup by decide+kernel),dF (Dv (dm T.b_len (aa 0)) (eT rfl T.g_LEAST_CROWD)),aa 0⟩))))))))))
theorem n0{j:Nat}{X:List D->M D}{f:b'}{O:eb}(F:Fun K "first_map_from" "first_map_from" (top 43) f O)(Q:mg "first_map_from"=ar (.ref f))(T:Txt K mg)(Z:DefX P w K mg base 2 "goes_on" ["one","other","start","place"] gc)(Y:DefX P w K mg base (3+j) "first_map_from" ["one","other","start"] X):DefX P w K mg base (3+j+1) "first_map_from" ["one","other","start"] (j9 6 3 (dZ X)):=
 bC (m:=dZ X) F Q (F.binds λ_ _ _ _ _ _ us S=>match us,S with|[_,_,_],_=>rfl) eP rfl λR A outer s H E U=>
  ax (bz 3 eP.nd (aN (aa 0) aA) (hs:=gk)) (ax (cm (qz (dY U) (dm T.b_len (aa 2)) (aa 3)) (aH (aP (aa 2))) bF) (ax (lY (b:=dU X) Pc rfl (de T.b_range (aa 3)) (aJ 4 eP.nd) (aH (cm (dh (ay (aB Z (U.mono (by omega)) (by (refine @cR _ _ _ _ _ _ (aa 0) ?_ ag;refine @cR _ _ _ _ _ _ (aa 1) ?_ ag;refine @cR _ _ _ _ _ _ (aa 2) ?_ ag;refine @cR _ _ _ _ _ _ (aa 4) ?_ ag;exact ah))))) (ax (bz 5 eP.nd (ay (aB Y (U.mono (NQ _)) (af (aa 0) (af (aa 1) (af (ay (eS (aa 2) (cN (af (aa 4) ah ag)))) ah fA) ag) ag))) (hs:=cM)) (aH (cm (oF (aa 5) kM) (aH (aP (aa 5))) bF))) bF))) (aH (aP kM))))
theorem jG{f:b'}{U:eb}(F:Fun K "first_map_from" "first_map_from" (top 43) f U)(Y:mg "first_map_from"=ar (.ref f))(T:Txt K mg)(Z:DefX P w K mg base 2 "goes_on" ["one","other","start","place"] gc):∀n,DefX P w K mg base (3+n) "first_map_from" ["one","other","start"] (b0 n)
 |0=>DefX.none F Y (F.binds λ_ _ _ _ _ _ us X=>match us,X with|[_,_,_],_=>rfl)
 |n+1=>n0 F Y T Z (jG F Y T Z n)
theorem pB{f:b'}{X:eb}(F:Fun K "first_map_from" "first_map_from" (top 43) f X)(Y:mg "first_map_from"=ar (.ref f))(T:Txt K mg)(Z:DefX P w K mg base 2 "goes_on" ["one","other","start","place"] gc):DefX P w K mg base 11 "first_map_from" ["one","other","start"] fq:=jG F Y T Z 8
theorem rj{j:Nat}{X:List D->M D}{f:b'}{O:eb}(F:Fun K "crowds_from" "crowds_from" (top 28) f O)(Q:mg "crowds_from"=ar (.ref f))(T:Txt K mg)(Z:DefX P w K mg base 2 "joins" ["web","some","place"] gm)(Y:DefX P w K mg base (3+j) "crowds_from" ["web","start"] X):DefX P w K mg base (3+j+1) "crowds_from" ["web","start"] (j9 4 2 (fF X)):=
 bC (m:=fF X) F Q (F.binds λ_ _ _ _ _ _ us S=>match us,S with|[_,_],_=>rfl) jF rfl λR A outer s H E U=>
  ax (bz 2 jF.nd (KW (Dv (dm T.b_len (aa 1)) (eT rfl T.g_LEAST_CROWD)) (dJ (af (aa 1) ah ag)) (dJ ah)) (hs:=DZ)) (ax (lY (b:=ft X) Pc rfl (kq T.b_range (eS (aN (aa 1) zM) aA) (aN (aa 0) aA)) (aJ 3 jF.nd) (aH (cm (dh (ay (aB Z (U.mono (by omega)) (af (aa 0) (af (aa 1) (af (aa 3) ah ag) ag) ag)))) (aH (cG (mY (aa 2) (ay (aB Y (U.mono (NQ _)) (af (aa 0) (af (ay (eS (aa 1) (cN (af (aa 3) ah ag)))) ah fA) ag)))))) bF))) (aH (aP (aa 2))))
theorem lL{f:b'}{X:eb}(F:Fun K "crowds_from" "crowds_from" (top 28) f X)(Y:mg "crowds_from"=ar (.ref f))(T:Txt K mg)(Z:DefX P w K mg base 2 "joins" ["web","some","place"] gm):∀n,DefX P w K mg base (3+n) "crowds_from" ["web","start"] (dw n)
 |0=>DefX.none F Y (F.binds λ_ _ _ _ _ _ us U=>match us,U with|[_,_],_=>rfl)
 |n+1=>rj F Y T Z (lL F Y T Z n)
theorem tI{f:b'}{X:eb}(F:Fun K "crowds_from" "crowds_from" (top 28) f X)(Y:mg "crowds_from"=ar (.ref f))(T:Txt K mg)(Z:DefX P w K mg base 2 "joins" ["web","some","place"] gm):DefX P w K mg base 12 "crowds_from" ["web","start"] dO:=lL F Y T Z 9
theorem CL{f:b'}{Q:eb}(F:Fun K "map_to" "map_to" (top 44) f Q)(R:mg "map_to"=ar (.ref f))(T:Txt K mg)(Y:DefX P w K mg base 6 "degrees" ["web"] fj)(X:DefX P w K mg base 7 "need_mapped" ["one","other"] fE)(Z:DefX P w K mg base 11 "first_map_from" ["one","other","start"] fq):DefX P w K mg base 12 "map_to" ["one","other"] mG:=
 ef (m:=xX) F R (F.binds λ_ _ _ _ _ _ us O=>match us,O with|[_,_],_=>rfl) CH rfl λS A outer s H E U=>
  ax (cG (ay (br X (U.mono (by decide)) aM.pass (af (aa 0) (af (aa 1) ah ag) ag)))) (ax (cm (qA (dY U) (ay (eL T.b_sorted (ay (br Y (U.mono (by decide)) aM.pass (af (aa 0) ah ag))))) (ay (eL T.b_sorted (ay (br Y (U.mono (by decide)) aM.pass (af (aa 1) ah ag)))))) (aH (aP kM)) bF) (aH (aP (ay (br Z (U.mono (by decide)) aM.pass (af (aa 0) (af (aa 1) (af (Jo 6 rfl) ah gZ) ag) ag))))))
theorem pC{j:Nat}{S:List D->M D}{f:b'}{L:eb}(F:Fun K "sharings_from" "sharings_from" (top 35) f L)(N:mg "sharings_from"=ar (.ref f))(T:Txt K mg)(Y:DefX P w K mg base 12 "crowds_from" ["web","start"] dO)(Z:DefX P w K mg base 1 "how_many_have" ["crowds","some"] aX)(X:DefX P w K mg base 2 "goes_with" ["taken","crowd"] eV)(U:DefX P w K mg base (13+j) "sharings_from" ["web","taken"] S):DefX P w K mg base (13+j+1) "sharings_from" ["web","taken"] (j9 5 2 (eI S)):=
 bC (m:=eI S) F N (F.binds λ_ _ _ _ _ _ us Q=>match us,Q with|[_,_],_=>rfl) fw rfl λO A outer s H E R=>
  ax (ky (gD 2 (t:=fZ S) (m:=f7 S) fw.nd (d6 (Nc:=["tie","taken"]) (js:=[none,ar 1]) (ai (top 35)) ["web","taken","free","found","crowd"] (λ_=>rfl) rfl (by decide+kernel)) rfl (cA (aN (aa 0) aA)) (λC ex s2 J=>⟨aJ 0 (show(["tie","taken"]:List Str).Nodup by decide+kernel),dF (qz (dY R) (ay (aB Z (R.mono (by omega)) (af (aa 1) (af (aa 0) ah ag) ag))) aA),aa 0⟩))) (ax (cm (ec (D5 (aa 2))) (aH (aP (ay (dJ (af (aa 1) ah ag))))) bF) (ax (bz 3 fw.nd (dJ ah) (hs:=oP)) (ax (lY (b:=eB S) Pc rfl (cA (ay (aB Y (R.mono (by omega)) (af (aa 0) (af (aN (aa 2) aA) ah aS) ag)))) (aJ 4 fw.nd) (aH (cm (dh (ay (aB X (R.mono (by omega)) (af (aa 1) (af (aa 4) ah ag) ag)))) (aH (cG (mY (aa 3) (ay (aB U (R.mono (NQ _)) (af (aa 0) (af (ay (eS (aa 1) (ay (dJ (af (aa 4) ah ag))))) ah fA) ag)))))) bF))) (aH (aP (aa 3))))))
theorem j4{f:b'}{S:eb}(F:Fun K "sharings_from" "sharings_from" (top 35) f S)(U:mg "sharings_from"=ar (.ref f))(T:Txt K mg)(Y:DefX P w K mg base 12 "crowds_from" ["web","start"] dO)(Z:DefX P w K mg base 1 "how_many_have" ["crowds","some"] aX)(X:DefX P w K mg base 2 "goes_with" ["taken","crowd"] eV):∀n,DefX P w K mg base (13+n) "sharings_from" ["web","taken"] (cc n)
 |0=>DefX.none F U (F.binds λ_ _ _ _ _ _ us R=>match us,R with|[_,_],_=>rfl)
 |n+1=>pC F U T Y Z X (j4 F U T Y Z X n)
theorem qu{f:b'}{S:eb}(F:Fun K "sharings_from" "sharings_from" (top 35) f S)(U:mg "sharings_from"=ar (.ref f))(T:Txt K mg)(Y:DefX P w K mg base 12 "crowds_from" ["web","start"] dO)(Z:DefX P w K mg base 1 "how_many_have" ["crowds","some"] aX)(X:DefX P w K mg base 2 "goes_with" ["taken","crowd"] eV):DefX P w K mg base 22 "sharings_from" ["web","taken"] fQ:=j4 F U T Y Z X 9
theorem rk{f:b'}{R:eb}(F:Fun K "all_sharings" "all_sharings" (top 36) f R)(S:mg "all_sharings"=ar (.ref f))(T:Txt K mg)(Y:DefX P w K mg base 7 "need_crowded" ["web"] cK)(Z:DefX P w K mg base 22 "sharings_from" ["web","taken"] fQ):DefX P w K mg base 23 "all_sharings" ["web"] bh:=
 ef (m:=jA) F S (F.binds λ_ _ _ _ _ _ us Q=>match us,Q with|[_],_=>rfl) rf rfl λU A outer s H E X=>
  ax (cG (ay (br Y (X.mono (by decide)) aM.pass (af (aa 0) ah ag)))) (aH (aP (ay (br Z (X.mono (by decide)) aM.pass (af (aa 0) (af (ay (dJ ah)) ah Gs) ag)))))
theorem wW{f:b'}{R:eb}(F:Fun K "some_root" "some_root" (top 53) f R)(S:mg "some_root"=ar (.ref f))(T:Txt K mg)(Z:DefX P w K mg base 23 "all_sharings" ["web"] bh)(Y:DefX P w K mg base 9 "root_by" ["web","sharing"] gJ):DefX P w K mg base 24 "some_root" ["web"] eY:=
 ef (m:=mH) F S (F.binds λ_ _ _ _ _ _ us Q=>match us,Q with|[_],_=>rfl) pq rfl λU A outer s H E X=>
  ax (bz 1 pq.nd (ay (br Z (X.mono (by decide)) aM.pass (af (aa 0) ah ag))) (hs:=cM)) (ax (cm (ec (D5 (aa 1))) (aH (aP kM)) bF) (aH (aP (ay (br Y (X.mono (by decide)) aM.pass (af (aa 0) (af (aN (aa 1) aA) ah aS) ag))))))
theorem uf{f:b'}{z:eb}(F:Fun K "_law_right" "_law_right" (top 65) f z)(B:mg "_law_right"=ar (.ref f))(T:Txt K mg)(L:DefX P w K mg base 6 "within" ["web","some"] mB)(U:DefX P w K mg base 8 "is_sharing" ["web","thing"] eA)(Z:DefX P w K mg base 23 "all_sharings" ["web"] bh)(N:DefX P w K mg base 9 "root_by" ["web","sharing"] gJ)(J:DefX P w K mg base 12 "map_to" ["one","other"] mG)(O:DefX P w K mg base 7 "tie_web" ["web"] iX)(Y:DefX P w K mg base 8 "root_holds" ["web","thing"] cY)(S:DefX P w K mg base 24 "some_root" ["web"] eY)(X:DefX P w K mg base 9 "shared_by" ["web","paper"] eX)(R:DefX P w K mg base 1 "_law_take" ["_law_state_here","_law_many"] aV):DefX P w K mg base 25 "_law_right" ["_law_state_here","_law_web_here"] fu:=
 bC (m:=iQ) F B (F.binds λ_ _ _ _ _ _ us I=>match us,I with|[_,_],_=>rfl) fJ rfl λG A outer s H E Q=>
  ax (IU 2 3 rfl fJ.nd (af (ay (aB Z (Q.mono (by decide)) (af (aa 1) ah ag))) (af (ay (aB S (Q.mono (by decide)) (af (aa 1) ah ag))) ah bH) bH)) (ax (cm (qA (dY Q) (K6 (aa 3) kM) (qy (dY Q) (aa 2) (ay (dJ ah)))) (aH (aP eF)) bF) (ax (lY (b:=cP) Pc rfl (cA (aa 2)) (aJ 4 fJ.nd) (ax (bz 5 fJ.nd (ay (aB N (Q.mono (by decide)) (af (aa 1) (af (aa 4) ah ag) ag))) (hs:=cM)) (ax (cm (rV (oA (oF (ay (aB U (Q.mono (by decide)) (af (aa 1) (af (aa 4) ah ag) ag))) eF) (lV (oF (ay (aB Y (Q.mono (by decide)) (af (aa 1) (af (aa 5) ah ag) ag))) eF)))) (aH (aP eF)) bF) (aH (cm (rV (oA (qA (dY Q) (ay (aB X (Q.mono (by decide)) (af (aa 1) (af (aa 5) ah ag) ag))) (aa 4)) (lV (HA (ay (aB J (Q.mono (by decide)) (af (ay (aB O (Q.mono (by decide)) (af (aN (aa 5) aA) ah aS))) (af (aa 1) ah ag) bH))) kM)))) (aH (aP eF)) bF))))) (ax (cm (HA (aa 3) kM) (aH (aP eF)) bF) (ax (cm (rV (oA (oF (ay (aB Y (Q.mono (by decide)) (af (aa 1) (af (aa 3) ah ag) ag))) eF) (lV (DC (dY Q) (ay (aB X (Q.mono (by decide)) (af (aa 1) (af (aa 3) ah ag) ag))) (aa 2))))) (aH (aP eF)) bF) (ax (bz 6 fJ.nd (du T.b_tuple (ay (bu (t:=fR) (m:=fS) (d6 (Nc:=["_law_place","_law_state_here"]) (js:=[none,ar 0]) (ai (top 65)) ["_law_state_here","_law_web_here","_law_sharings","_law_told","_law_sharing","_law_paper","_law_some"] (λ_=>rfl) rfl (by decide+kernel)) rfl (de T.b_range (aN (aa 1) aA)) (λC ex s2 y=>⟨aJ 0 (show(["_law_place","_law_state_here"]:List Str).Nodup by decide+kernel),dF (uz (ay (aB R (Q.mono (by decide)) (af (aa 1) (af aA ah aQ) ag))) aA),aa 0⟩)))) (hs:=cM)) (aH (aP (K5 (dY Q) (ay (aB Z (Q.mono (by decide)) (af (ay (aB L (Q.mono (by decide)) (af (aa 1) (af (aa 6) ah ag) ag))) ah bH))) (ay (dJ ah))))))))))
end
theorem CM{P:dV}{w:d_}{K:cC}{Q:Str->Option a_}{base:eg}{f c I:b'}{L:eb}(F:Fun K "law" "law" (top 66) f L)(T:Txt K Q)(G:Mod K Q base)(C:BaseL K Q base)(TI:DR K)(J:r7 K e_ "law"=ar (ar (.ref f)))(N:mh K "law"=ar (c,I))(Z:∀base,Mod K Q base->DefX P w K Q base 23 "all_sharings" ["web"] bh)(U:∀base,Mod K Q base->DefX P w K Q base 2 "_law_state" ["_law_script","_law_k"] iN)(Y:∀base,Mod K Q base->DefX P w K Q base 2 "_law_mixed_row" ["_law_state_here","_law_things"] bb)(S:∀base,Mod K Q base->DefX P w K Q base 1 "_law_named" ["_law_web_here","_law_names"] cI)(X:∀base,Mod K Q base->DefX P w K Q base 4 "_law_some_web" ["_law_state_here","_law_most"] eG)(R:∀base,Mod K Q base->DefX P w K Q base 25 "_law_right" ["_law_state_here","_law_web_here"] fu):FnOk P w K Q base (qE P w) 26 f L ["_law_script"] (DS K uK):=
 Jl (m:=Em) F tF rfl J N λA outer s H E O=>
  ax (lY (b:=mI) Pc rfl (de T.b_range (vD rfl T.b_max (af aA (af (zv rfl T.b_min (af (dm T.b_len (aa 0)) (af aA ah aQ) bH)) ah bH) aQ))) (aJ 1 tF.nd) (ax (bz 2 tF.nd (aB (U _ G) (O.mono (by decide)) (af (aa 0) (af (aa 1) ah ag) ag)) (hs:=cM)) (ax (bz 3 tF.nd (ay (aB (X _ G) (O.mono (by decide)) (af (aa 2) (af aA ah aQ) ag))) (hs:=cM)) (ax (bz 4 tF.nd (ay (aB (S _ G) (O.mono (by decide)) (af (aa 3) (af (ay (aB (Y _ G) (O.mono (by decide)) (af (aa 2) (af (ay (kU rfl T.b_list T.b_range (aN (aa 3) aA))) ah bH) ag))) ah bH) ag))) (hs:=cM)) (aH (cm (rV (oA (ec (dh (ay (aB (R _ G) (O.mono (by decide)) (af (aa 2) (af (aa 3) ah ag) ag))))) (lV (qA (dY O) (dm T.b_len (ay (aB (Z _ G) (O.mono (by decide)) (af (aa 4) ah ag)))) (dm T.b_len (ay (aB (Z _ G) (O.mono (by decide)) (af (aa 3) ah ag)))))))) (aH (aP eF)) bF)))))) (aH (aP eF))
def HM:Stmt:=Lg (top 6)
theorem Hq:FnScope ["self","many","most"] ["self","many","most"] (ai HM):=iZ
abbrev lP:Program:=PySem.Challenge.rw_tiewebs_k11_whole_sharings_and_roots.prog
abbrev kW(w:d_):W.Frag:=KH.K0 w.params
theorem fk{K:cC}{f c:b'}{m:a_}(x q:Str)(st:n_)(l:K.lookup f=ar ⟨.type "function",none,.func (wR x q (gL st) (dQ st) (ai st) .none .none .none m none (.ref c) .none), #[]⟩)(h:K' K (.ref c) q=b_)(k:wm K (.ref f)=b_):Fun K x q st f (wR x q (gL st) (dQ st) (ai st) .none .none .none m none (.ref c) .none):=IP l h k
abbrev nK(w:d_)(x:Str):Option (Option a_):=r7 (kW w) e_ x
abbrev FJ:Value:=KH.zs "law_tiewebs_k11_whole_sharings_and_roots" 571
abbrev L3:Value:=KH.zs "tiewebs.crowds" 394
abbrev L4:Value:=KH.zs "tiewebs.maps" 482
abbrev L5:Value:=KH.zs "tiewebs.roots" 543
abbrev HN:Value:=KH.zs "tiewebs.sharings" 429
abbrev Na:Value:=KH.zs "tiewebs.ties" 520
abbrev CN:Value:=KH.zs "tiewebs.webs" 298
theorem jH{w:d_}{Z:Str->Option a_}{h:eg}(X:(kW w).In h)(G:h.Ns e_ Z)(f c:b')(m:a_)(x:Str)(st:n_)(a:nK w x=ar (ar (.ref f)):=by kernel_rfl)(l:(kW w).lookup f=ar ⟨.type "function",none,.func (wR x x (gL st) (dQ st) (ai st) .none .none .none m none (.ref c) .none), #[]⟩:=by kernel_rfl)(j:K' (kW w) (.ref c) x=true:=by kernel_rfl)(k:wm (kW w) (.ref f)=true:=by kernel_rfl):Z x=ar (.ref f)/\Fun (kW w) x x st f (wR x x (gL st) (dQ st) (ai st) .none .none .none m none (.ref c) .none):=⟨Pk X G a,fk x x st l j k⟩
theorem NK(w:d_)(S:Str->Option a_)(fa:b')(h:eg)(X:(kW w).In h)(G:h.Ns e_ S)(d0:S "law"=ar (.ref fa)):∃fd:eb,(∀(s:cn) (u:a_),B_ s fd ⟨[u],[]⟩ [("_law_script",u)])/\∀base:eg,Mod (kW w) S base->BaseL (kW w) S base->FnOk lP w (kW w) S base (qE lP w) 26 fa fd ["_law_script"] (DS (kW w) uK):=by
 obtain⟨a9,F9⟩:=jH X G 101 100 CN "is_whole" (top 9);have aG:nK w "TooGreat"=ar (ar (.ref 92)):=by kernel_rfl
 have c1:m7 (kW w) 92 89=true:=by kernel_rfl
 have FG:=@fk (kW w) 89 88 (KH.zs "tiewebs.errors" 187) "__init__" "TooGreat.__init__" HM (by kernel_rfl) (by kernel_rfl) (by kernel_rfl);obtain⟨k6,j3⟩:=jH X G 108 107 CN "is_pair" (top 10);obtain⟨l6,d2⟩:=jH X G 115 114 CN "is_place" (top 11);obtain⟨g5,p7⟩:=jH X G 122 121 CN "is_tie" (top 12);obtain⟨m1,e5⟩:=jH X G 127 126 CN "is_rising" (top 13);obtain⟨q6,d3⟩:=jH X G 132 131 CN "is_places" (top 14);obtain⟨m2,l5⟩:=jH X G 137 136 CN "is_web" (top 15);obtain⟨k8,h2⟩:=jH X G 144 143 CN "need_web" (top 16);obtain⟨e3,p2⟩:=jH X G 151 150 CN "need_few_places" (top 17);obtain⟨h1,e1⟩:=jH X G 156 155 CN "pairs_of" (top 18);obtain⟨g8,f3⟩:=jH X G 163 162 CN "are_tied" (top 19);obtain⟨q2,c3⟩:=jH X G 168 167 CN "degrees" (top 20);obtain⟨h4,j7⟩:=jH X G 173 172 CN "within" (top 21);obtain⟨c2,e7⟩:=jH X G 180 179 L3 "need_crowded" (top 25);obtain⟨h3,l7⟩:=jH X G 185 184 L3 "joins" (top 26);obtain⟨j2,o4⟩:=jH X G 190 189 L3 "crowd_holds" (top 27);obtain⟨e2,f5⟩:=jH X G 197 196 L3 "crowds_from" (top 28);obtain⟨l2,l1⟩:=jH X G 202 201 HN "how_many_have" (top 31);obtain⟨h5,g4⟩:=jH X G 207 206 HN "are_crowds" (top 32);obtain⟨n1,g7⟩:=jH X G 212 211 HN "is_sharing" (top 33);obtain⟨q7,q4⟩:=jH X G 217 216 HN "goes_with" (top 34);obtain⟨i2,p0⟩:=jH X G 222 221 HN "sharings_from" (top 35);obtain⟨f6,d1⟩:=jH X G 229 228 HN "all_sharings" (top 36);obtain⟨e0,o2⟩:=jH X G 234 233 HN "holders_of" (top 37);obtain⟨k4,i1⟩:=jH X G 239 238 HN "root_by" (top 38);obtain⟨e8,h9⟩:=jH X G 246 245 L4 "need_mapped" (top 41);obtain⟨p8,i3⟩:=jH X G 251 250 L4 "goes_on" (top 42);obtain⟨e6,p6⟩:=jH X G 258 257 L4 "first_map_from" (top 43);obtain⟨n9,p3⟩:=jH X G 265 264 L4 "map_to" (top 44);obtain⟨k3,j1⟩:=jH X G 270 269 Na "ties_meet" (top 47);obtain⟨n6,l8⟩:=jH X G 277 276 Na "need_few_ties" (top 48);obtain⟨j0,n2⟩:=jH X G 282 281 Na "tie_web" (top 49);obtain⟨c7,k0⟩:=jH X G 287 286 L5 "are_names" (top 51);obtain⟨h6,k5⟩:=jH X G 292 291 L5 "root_holds" (top 52);obtain⟨k1,o3⟩:=jH X G 299 298 L5 "some_root" (top 53);obtain⟨n7,o1⟩:=jH X G 304 303 L5 "shared_by" (top 54);obtain⟨i0,q0⟩:=jH X G 311 310 FJ "_law_cell_at" (top 56);obtain⟨q3,n3⟩:=jH X G 318 317 FJ "_law_state" (top 57);obtain⟨q5,k7⟩:=jH X G 325 324 FJ "_law_take" (top 58);obtain⟨l4,p4⟩:=jH X G 330 329 FJ "_law_pairs" (top 59);obtain⟨p5,h8⟩:=jH X G 337 336 FJ "_law_mixed_row" (top 60);obtain⟨c5,p1⟩:=jH X G 342 341 FJ "_law_web" (top 61);obtain⟨c4,h7⟩:=jH X G 347 346 FJ "_law_made" (top 62);obtain⟨k2,l0⟩:=jH X G 352 351 FJ "_law_named" (top 63);obtain⟨q1,l3⟩:=jH X G 357 356 FJ "_law_some_web" (top 64);obtain⟨e4,i4⟩:=jH X G 362 361 FJ "_law_right" (top 65);have b6:nK w "law"=ar (ar (.ref 369)):=by kernel_rfl
 have c6:=@fk (kW w) 369 368 (KH.zs "law_tiewebs_k11_whole_sharings_and_roots" 571) "law" "law" (top 66) (by kernel_rfl) (by kernel_rfl) (by kernel_rfl);obtain⟨⟨ct,Pt⟩,b5⟩:=PH.mp (show(mh (kW w) "law").isSome=b_ by kernel_rfl);have e:=d0.symm.trans (Pk X G b6);cases e;have T:Txt (kW w) S:=⟨by kernel_rfl,by kernel_rfl,Ov X G (by kernel_rfl),Ov X G (by kernel_rfl),Ov X G (by kernel_rfl),Ov X G (by kernel_rfl),Ov X G (by kernel_rfl),Ov X G (by kernel_rfl),Ov X G (by kernel_rfl),Ov X G (by kernel_rfl),Ov X G (by kernel_rfl),Ov X G (by kernel_rfl),Ov X G (by kernel_rfl),Ov X G (by kernel_rfl),Ov X G (by kernel_rfl),Ov X G (by kernel_rfl),Ov X G (by kernel_rfl),⟨398,Pk X G (by kernel_rfl)⟩,⟨431,Pk X G (by kernel_rfl)⟩,⟨396,Pk X G (by kernel_rfl)⟩,⟨484,Pk X G (by kernel_rfl)⟩,⟨300,Pk X G (by kernel_rfl)⟩,⟨522,Pk X G (by kernel_rfl)⟩⟩;have GR:∀base,GrX lP w (kW w) S base:=λbase=>Ee FG X T.err aG c1 Hq (by decide+kernel) (FG.binds λ_ _ _ _ _ _ us hl=>match us,hl with|[_,_,_],_=>rfl) rfl;refine⟨wR "law" "law" (gL (top 66)) (dQ (top 66)) (ai (top 66)) .none .none .none (KH.zs "law_tiewebs_k11_whole_sharings_and_roots" 571) none (.ref 368) .none,λs v=>.of_eq rfl,λbase GM BL=>?_⟩;have t:=λbase (GB:Mod (kW w) S base)=>yG (P:=lP) (w:=w) (base:=base) F9 a9 T;have E:=λbase (GB:Mod (kW w) S base)=>Aq (P:=lP) (w:=w) (base:=base) j3 k6 T;have L:=λbase (GB:Mod (kW w) S base)=>wI (P:=lP) (w:=w) (base:=base) e5 m1 T;have r:=λbase (GB:Mod (kW w) S base)=>yH (P:=lP) (w:=w) (base:=base) e1 h1 T;have K:=λbase (GB:Mod (kW w) S base)=>yI (P:=lP) (w:=w) (base:=base) f3 g8 T;have Z:=λbase (GB:Mod (kW w) S base)=>qr (P:=lP) (w:=w) (base:=base) l1 l2 T;have A:=λbase (GB:Mod (kW w) S base)=>wJ (P:=lP) (w:=w) (base:=base) j1 k3 T;have p:=λbase (GB:Mod (kW w) S base)=>rg (P:=lP) (w:=w) (base:=base) q0 i0 T;have O:=λbase (GB:Mod (kW w) S base)=>wK (P:=lP) (w:=w) (base:=base) k7 q5 T;have H:=λbase (GB:Mod (kW w) S base)=>t8 (P:=lP) (w:=w) (base:=base) p4 l4 T;have a0:=λbase (GB:Mod (kW w) S base)=>wL (P:=lP) (w:=w) (base:=base) h7 c4 T;have F:=λbase (GB:Mod (kW w) S base)=>t9 (P:=lP) (w:=w) (base:=base) l0 k2 T;have q:=λbase (GB:Mod (kW w) S base)=>yJ (P:=lP) (w:=w) (base:=base) d2 l6 T (t base GB);have a4:=λbase (GB:Mod (kW w) S base)=>Fw (P:=lP) (w:=w) (base:=base) l7 h3 T (K base GB);have b:=λbase (GB:Mod (kW w) S base)=>wO (P:=lP) (w:=w) (base:=base) q4 q7 T (Z base GB);have j:=λbase (GB:Mod (kW w) S base)=>ua (P:=lP) (w:=w) (base:=base) o2 e0 T (Z base GB);have b2:=λbase (GB:Mod (kW w) S base)=>Ar (P:=lP) (w:=w) (base:=base) i3 p8 T (K base GB);have g:=λbase (GB:Mod (kW w) S base)=>ub (P:=lP) (w:=w) (base:=base) n3 q3 T (p base GB);have Y:=λbase (GB:Mod (kW w) S base)=>pA (P:=lP) (w:=w) (base:=base) h8 p5 T (O base GB);have f:=λbase (GB:Mod (kW w) S base)=>CI (P:=lP) (w:=w) (base:=base) p7 g5 T (E base GB) (q base GB);have C:=λbase (GB:Mod (kW w) S base)=>wQ (P:=lP) (w:=w) (base:=base) d3 q6 T (q base GB) (L base GB);have a5:=λbase (GB:Mod (kW w) S base)=>yK (P:=lP) (w:=w) (base:=base) p1 c5 T (O base GB) (H base GB) (Y base GB);have d:=λbase (GB:Mod (kW w) S base)=>CJ (P:=lP) (w:=w) (base:=base) l5 m2 T (t base GB) (E base GB) (f base GB) (L base GB);have m:=λbase (GB:Mod (kW w) S base)=>tG (P:=lP) (w:=w) (base:=base) o4 j2 T (C base GB) (a4 base GB);have a:=λbase (GB:Mod (kW w) S base)=>wU (P:=lP) (w:=w) (base:=base) k0 c7 T (f base GB);have y:=λbase (GB:Mod (kW w) S base)=>qs (P:=lP) (w:=w) (base:=base) l3 q1 T (O base GB) (H base GB) (Y base GB) (a5 base GB) (a0 base GB) (F base GB);have U:=λbase (GB:Mod (kW w) S base)=>yL (P:=lP) (w:=w) (base:=base) h2 k8 T (d base GB);have k:=λbase (GB:Mod (kW w) S base)=>uc (P:=lP) (w:=w) (base:=base) g4 h5 T (L base GB) (m base GB);have N:=λbase (GB:Mod (kW w) S base)=>nZ (P:=lP) (w:=w) (base:=base) p2 e3 T (GR base) (U base GB);have a6:=λbase (GB:Mod (kW w) S base)=>As (P:=lP) (w:=w) (base:=base) c3 q2 T (U base GB);have b3:=λbase (GB:Mod (kW w) S base)=>CK (P:=lP) (w:=w) (base:=base) j7 h4 T (C base GB) (U base GB);have x:=λbase (GB:Mod (kW w) S base)=>qt (P:=lP) (w:=w) (base:=base) l8 n6 T (GR base) (U base GB);have R:=λbase (GB:Mod (kW w) S base)=>rh (P:=lP) (w:=w) (base:=base) e7 c2 T (N base GB);have o:=λbase (GB:Mod (kW w) S base)=>tH (P:=lP) (w:=w) (base:=base) h9 e8 T (U base GB) (N base GB);have b1:=λbase (GB:Mod (kW w) S base)=>Au (P:=lP) (w:=w) (base:=base) n2 j0 T (r base GB) (A base GB) (x base GB);have I:=λbase (GB:Mod (kW w) S base)=>ud (P:=lP) (w:=w) (base:=base) g7 n1 T (R base GB) (Z base GB) (k base GB);have J:=λbase (GB:Mod (kW w) S base)=>ue (P:=lP) (w:=w) (base:=base) k5 h6 T (E base GB) (d base GB) (r base GB) (K base GB) (R base GB) (A base GB) (a base GB);have l:=λbase (GB:Mod (kW w) S base)=>Av (P:=lP) (w:=w) (base:=base) i1 k4 T (I base GB) (j base GB);have a3:=λbase (GB:Mod (kW w) S base)=>wV (P:=lP) (w:=w) (base:=base) o1 n7 T (J base GB);have B:=λbase (GB:Mod (kW w) S base)=>pB (P:=lP) (w:=w) (base:=base) p6 e6 T (b2 base GB);have n:=λbase (GB:Mod (kW w) S base)=>tI (P:=lP) (w:=w) (base:=base) f5 e2 T (a4 base GB);have b4:=λbase (GB:Mod (kW w) S base)=>CL (P:=lP) (w:=w) (base:=base) p3 n9 T (a6 base GB) (o base GB) (B base GB);have z:=λbase (GB:Mod (kW w) S base)=>qu (P:=lP) (w:=w) (base:=base) p0 i2 T (n base GB) (Z base GB) (b base GB);have Q:=λbase (GB:Mod (kW w) S base)=>rk (P:=lP) (w:=w) (base:=base) d1 f6 T (R base GB) (z base GB);have c:=λbase (GB:Mod (kW w) S base)=>wW (P:=lP) (w:=w) (base:=base) o3 k1 T (Q base GB) (l base GB);have i:=λbase (GB:Mod (kW w) S base)=>uf (P:=lP) (w:=w) (base:=base) i4 e4 T (b3 base GB) (I base GB) (Q base GB) (l base GB) (b4 base GB) (b1 base GB) (J base GB) (c base GB) (a3 base GB) (O base GB);exact CM c6 T GM BL (Jk (show HD (kW w)=b_ by kernel_rfl)) b6 b5 Q g Y F y i
end W
section
namespace W
open PySem PySem.Spec PyProof.Rows L2 S3 S4 S7
theorem J4(K:cC)(H:Hp)(a:b')(ns:List Int)(Y:TabsOk K H)(Z:FB K H a (ns.map V.int)):DS K uK [.ref a] H (λv _=>v= .bl b_) λ_ _ _=>False:=by obtain⟨d,X,e,hd⟩:=LL (S:=[]) (ns:=ns);refine⟨[],[],[.ro (ns.map D.int)],⟨.nil,rfl,(λk a xs h=>by cases h),Y⟩,.cons (.ro Z (oH ns)) .nil,?_⟩;refine⟨.ok d,X,e,λT R _ _=>?_⟩;subst hd;intro v U;cases U;rfl
theorem walk{l:SJ}{q:dV}{loose:List Str}{XP:(Str->Option a_)->eg->Prop}{YP:d_->eg->Prop}{d:SY}{K:D_->cC}(U:l.most=ar 63)(Y:d.params.defaults=[])
  (T:∀(w:d_) (h:eg),YP w h->(K w.params).In h) (R:∀w:d_,SX (K w.params)=b_)
  (Z:∀(w:d_) (h:eg),YP w h->∀y∈dD,∀c Q,mh (K w.params) y=ar (c,Q)->RZ h c Q/\h.get? Q=ar (z_ #[]))
  (F:∀(w:d_) (mg:Str->Option a_) (fa:b') (h:eg),(K w.params).In h->h.Ns e_ mg->mg d.name=ar (.ref fa)->
   ∃fd:eb,(∀(s:cn) (u:a_),B_ s fd ⟨[u],[]⟩ [("_law_script",u)])/\∀base:eg,Mod (K w.params) mg base->BaseL (K w.params) mg base->FnOk l.prog w (K w.params) mg base (qE l.prog w) 26 fa fd ["_law_script"] (DS (K w.params) uK)):
  Ta q loose XP YP l.row.toRowW d [] (λf vs=>PySem.call f vs):=
 DV (n:=63) (k:=26) (x:="_law_script") (sp:=λw=>DS (K w.params) uK) U (by decide) Y ⟨rfl,by decide,by decide⟩ T R Z F λw H a ns _ S X=>J4 (K w.params) H a ns S X
end W
open PySem PySem.W PyProof.Rows
set_option maxRecDepth 100000 in
set_option maxHeartbeats 0 in
theorem PySem.Challenge.cw_tiewebs_k11_whole_sharings_and_roots_holds : PySem.Challenge.rw_tiewebs_k11_whole_sharings_and_roots.Holds := by
 w_on;o_law
 refine holds_open (q:=KH.vq) (loose:=[]) (Xt:=KH.Xt0) (XP:=XL KH.vq []) (Yf:=SQ (K_ KH.K0 KH.as0 KH.as0_eq KH.ts0)) (Ya:=SR (K_ KH.K0 KH.as0 KH.as0_eq KH.ts0)) (YP:=Hook.says (K_ KH.K0 KH.as0 KH.as0_eq KH.ts0)) (N:=5574) KH.left0 (Hook.of (K_ KH.K0 KH.as0 KH.as0_eq KH.ts0)) (Hook.keeps (K_ KH.K0 KH.as0 KH.as0_eq KH.ts0)) (fun s e=>xl_of s (Bool.and_eq_true_iff.mp e).1) XL.keeps (by rfl) (by rfl) (by rfl) (fun s e=>recFacts_of (Bool.and_eq_true_iff.mp e).2) (by rfl) (by first|assumption|decide+kernel) (by decide+kernel) ⟨rfl,rfl,rfl,rfl,rfl,by decide+kernel⟩ ?hw ?hc
 case hw=>w_witness2
 refine W.walk (l:=PySem.Challenge.rw_tiewebs_k11_whole_sharings_and_roots) rfl rfl (fun w h Y=>PySem.W.km_in_of Y) ?nt (fun w h Y=>S7.MS (w:=w) ?ck Y) W.NK
 case nt=>intro w;kernel_rfl
 case ck=>kernel_rfl
end
