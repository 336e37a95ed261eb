import PyProof.Rows.All
import Wide.All
import OpenK.AllK
import Wide.FinOn
import PySem.Challenge.RW_tiewebs_k60_tie_maps
import Lean
import PyProof.EqAt
import PyProof.EqKinds
import PyProof.TupleCall
import PyProof.SetScanFacts
import PyProof.EnumMake
import PyProof.Draws
import PyProof.ExcInit
import PyProof.ExcClass3
import PyProof.InstStore
import KE.KUnpack
import PyProof.P3In
set_option Elab.async false
set_option compiler.extract_closed false
set_option linter.all false
set_option maxRecDepth 100000
set_option maxHeartbeats 8000000
noncomputable section
open Option renaming some->ar,map_some->z4,bind_some->J'
open PySem renaming Value->aC,Shared->b_,Addr->dt,starEach->d_,wpAny->eb,Program->ee,World->eM,model->e_,FuncData->fc,Heap->fg,mainGlobals->f',Around->gd,eval->gg,compareOp->j_,cellsFrom->k_,importedModules->ll,bootBuiltins->lx,swapsWith->ly,IsTupleKey->lz,assignEach->l_,SetTable->mu,rawInt->m_,behindInMarks->n0,attributeBase->n3,NameKind->n7,intKind->n_,foldedSetIterable->oo,backTo->pa,PyData->pd,Stmt->p4,IsPair->p_,binaryOp->t6,cLine->u4,builtinsNs->v_,sliceBounds->wd,excClassObj->wh,callerA->w7,ExcBaseFacts->x_,pyNext->z_,holding->A',codeAny->B_,firstArgMember->F0,BindsTo->GB,ofAClassStatement->G_,swapsWithSole->Ic,swappedStores->I_,treeTable->K',codeAmong->L0,checkBuiltinCall->L_,IsZip->M_,letOwnedTupleGo->O_,Params->PJ,GenState->P9,assign->Qb,OsState->Qn,PassesOwn->Qs,leaving->Qt,Arguments->Qu,getItem->Qv,noteFrame->Qx,assignInOrder->Qz,seq_tuple_add->QA,evalPart_none->QC,wpAny_newList->QF,IsPart->QG,isInstance->QH,bindName->QJ,concat_meets->QO,lastMarks->QX,seqIndex?->QY,isSubtype->Q2,pickOrder->Q3,seqIndex_of->Q5,hashByValue->Q6,wpAny_of_eq->Q7,field->Q9,wpAny_letGo->Q_,Keyword->Rc,OwnTail->Re,sysModules->Rf,wpAny_Name->Rg,pyIter->Rh,again->Ri,bindArgs->Rj,bindL->Rk,bindC->Rl,closureFor->Rn,setsByText->Rt,ZipApart->Ru,Model->Ry,TriplesOk->RC,seqItems?->RD,onTheHeap->RF,standAt->RG,entryFor->RQ,slotArgs->RR,Result->RW,DefRec->RX,argsOk->R0,newExc->R1,setItem->R3,getAttr->R4,newList->R7,collect->R8,Meets->Sa
open Pure renaming pure->a_
open Bool renaming true->bc,false->c_,false_eq_true->ey,and_eq_true->h_,not_true->p0,or_eq_true->vr,not_eq_true'->G',and_false->Py,and_self->QD
open PySem.W renaming Frag->dV,tabIn->mv,nsIn->pb,kitOne->ri,kas_place->sb,kas_asc->tu,kas_desc->t_,kas_rev->u0,kas_sort->u_,openSeen->wG,openGood->w6,tabObj->w_,findIn->y2,kla_obj->y3,InstAt->y',keepIn->z3,boot_heap->C_,fnOf->D_,findIn->D',behindTheImports->K_,kmHook->P_,CodeHd->Ql,kas_bin->Qw,lookIn->QK,codeIn->QN,kas_descPart->QQ,looks_findIn->QT,clsIn->QU,kas_count->Q0,methodObj->Q4,kitAny->Ro,instObj->Rx,OpenLaw->Rz,kas_tail3->RA,mroIn->RE,findObj->RI,excIn->RJ,exmOne->RS,kla_fn->RT,notCls->RU,noTabs->RV,KasT->RY,OpenLaw->R5,WalkO->R6,clsIn->R9,Frag->Sd
open List renaming range->ed,not_mem_nil->fb,mem_cons->f_,replicate->l3,lookup_cons->mh,getD_eq_getElem?_getD->m1,size_toArray->m2,range'->o_,length_cons->q_,all_eq_true->x',length_nil->A2,toArray->B',length->G2,map_cons->H_,mem_append->N_,forIn_cons->O',drop_zero->Qj,all_cons->Qy,map_nil->QI,map_id->Rb
open PySem.Value renaming ref->er,none->hJ,int->pe,bool->t4,type->t5,builtin->y9,str->LI,float->Qa
open PySem.SetTable renaming insertAt->eu,below->u',fresh->E_,turns->Fn,below->Qk,runEnd->Rp,advance->RH,bits->RN,turns->RO
open PySem.PyData renaming eqv->gc,depthAll->pz,int->q0,eqvAll->s_,tuple->w8,list->Qf
open False renaming elim->g_
open PySem.Str renaming ofString->hO
open PySem.NameKind renaming free->hY,cell->p8
open PySem.Builtin.SmallTypes renaming nextOf->ip,ownedTupleIsFree->l6
open PySem.Builtin.Tuple renaming tupleExact->i_,tupleItemsOf->t8
open PySem.Builtin.Slice renaming slicePlaces->j',sliceApplied->t7,sliceAdjust->u2
open Ne renaming symm->kr
open PySem.Obj renaming mapSeq->nC,mapFields->y7,putSet->M'
open PyProof.Rows renaming IntsAre->oD,seqObj->td,envOfC->y1,AllBare->y4,tupleItemsOf_->QB,Subscript_->Rm,IsTup->Rw,tail_any->RM,bubble->RZ,Call_->R_
open True renaming intro->p7
open PySem.Heap renaming SameBut->r7,MadeExcOf->Qm,IsTuple->QS,ExtBut->Q8
open Array renaming replicate->r_,length_toList->u3,mk->y_,getD->Rr
open PySem.Builtin.List renaming listTooLong->u5
open ForInStep renaming yield->A_
open List.Perm renaming cons->EW
open Int renaming toNat_natCast->F_
open PySem.SetTable.layClean renaming free->J_
open Or renaming inr->Qd,inl->QZ
open Sum renaming inl->Qo,inr->Qp
open PyProof.Rows.IsTup renaming new->Qq
open PySem.Shared renaming TypeIs->QE,heap->Ra
open PySem.Around renaming under->QL
open PySem.Code renaming isFrame->QM
open PySem.W.KasT renaming ret->QP
open PySem.pickOrder renaming go->QR
open Nat renaming succ_mul->QV,sub_self->QW
open PySem.SetTable.below renaming go->Rq
open PySem.Within renaming nil->Rv
open ForIn renaming forIn->RB
open PySem.W.Hook renaming obs->RK,val->RL
open PySem.SetTable.probe renaming go->RP
abbrev LP:=@PySem.wpAny_bind
abbrev LQ:=@PySem.Heap.get?_push_of_some
abbrev LR:=@List.length_map
abbrev LS:=@PySem.wpAny_pure
abbrev LU:=@Nat.le_refl
abbrev LV:=@List.getElem?_eq_getElem
abbrev LW:=@List.length_append
abbrev LX:=@List.getElem?_eq_some_iff
abbrev LY:=@m1
abbrev LZ:=@PySem.Heap.lt_size
abbrev L3:=@PySem.Heap.get?_push_size
abbrev L4:=@Array.getElem?_eq_getElem
abbrev L5:=@List.mem_cons_of_mem
abbrev L6:=@m2
abbrev L7:=@Nat.ne_of_lt
abbrev L8:=@decide_eq_true
abbrev L9:=@List.mem_range
abbrev Ma:=@Nat.le_trans
abbrev Mb:=@PySem.W.mg_of
abbrev Mc:=@Nat.lt_of_lt_of_le
abbrev Md:=@List.mem_cons_self
abbrev Me:=@f_
abbrev Mf:=@x'
abbrev Mg:=@Nat.zero_le
abbrev Mh:=@H_
abbrev Mi:=@List.getElem?_map
abbrev Mj:=@decide_eq_false
abbrev Ml:=@q_
abbrev Mm:=@Array.getElem?_eq_some_iff
abbrev Mn:=@Option.some.inj
abbrev Mo:=@List.getElem?_set_self
abbrev Mp:=@List.mem_map
abbrev Mq:=@Array.getElem?_toList
abbrev Mr:=@List.append_assoc
abbrev Ms:=@List.length_range
abbrev Mt:=@List.mem_append_right
abbrev Mu:=@decide_eq_true_eq
abbrev Mv:=@List.getElem?_append_left
abbrev Mw:=@PySem.wpAny_newObj_type
abbrev Mx:=@List.mem_of_getElem?
abbrev My:=@List.map_map
abbrev Mz:=@congrFun
abbrev MA:=@PySem.W.mg_none_of
abbrev MB:=@F_
abbrev MC:=@mh
abbrev MD:=@Array.getD_eq_getD_getElem?
abbrev ME:=@PySem.wpAny_holding
abbrev MF:=@PySem.Heap.get?_update_other
abbrev MG:=@List.filterMap_cons
abbrev MH:=@h_
abbrev MI:=@List.append_nil
abbrev MJ:=@PySem.wpAny_mono
abbrev MK:=@List.length_take
abbrev ML:=@PySem.wpAny_call_entry
abbrev MM:=@List.nodup_cons
abbrev MN:=@PySem.wpAny_field
abbrev MO:=@Option.isSome_iff_exists
abbrev MP:=@PyProof.Rows.slot_tuple_getitem
abbrev MQ:=@of_decide_eq_true
abbrev MR:=@List.pairwise_cons
abbrev MS:=@PySem.Heap.get?_update_self
abbrev MT:=@PySem.sizeLine_eq
abbrev MU:=@PySem.W.kia_one
abbrev MV:=@PySem.Heap.get?_none_of_le
abbrev MW:=@List.getElem?_set_ne
abbrev MX:=@List.getElem?_eq_none
abbrev MY:=@List.map_append
abbrev MZ:=@PySem.PassesOwn.never
abbrev M0:=@Bool.false_and
abbrev M1:=@List.getElem_mem
abbrev M3:=@Nat.lt_succ_of_lt
abbrev M4:=@Bool.true_and
abbrev M5:=@PySem.Heap.size_push
abbrev M6:=@N_
abbrev M7:=@PySem.wpAny_standAt
abbrev M8:=@PyProof.Rows.callWith_type1
abbrev M9:=@List.length_set
abbrev Na:=@PySem.W.kia_tup
abbrev Nb:=@Array.getElem?_eq_none
abbrev Nd:=@PySem.wpAny_truthy_bool
abbrev Nf:=@PySem.wpAny_setState_of
abbrev Ng:=@PySem.Heap.SameBut.update
abbrev Nh:=@PySem.wpAny_seqItems
abbrev Ni:=@List.mem_filterMap
abbrev Nj:=@Bool.false_ne_true
abbrev Nk:=@PySem.wpAny_pyIter_tuple
abbrev Nl:=@PySem.Obj.data_mapFields
abbrev Nm:=@Nat.lt_irrefl
abbrev Nn:=@Nat.ne_of_gt
abbrev Np:=@QI
abbrev Nq:=@List.getElem?_append_right
abbrev Nr:=@PySem.F.slot_tuple_iterator_next
abbrev Nt:=@PySem.F.excBase_ValueError
abbrev Nu:=@Nat.le_of_lt
abbrev Nv:=@List.all_map
abbrev Nw:=@List.getElem?_toArray
abbrev Nx:=@PySem.wpAny_setField_rec
abbrev Ny:=@List.length_filter_le
abbrev Nz:=@PySem.Around.under_plainId
abbrev NA:=@PySem.wpAny_passesOwn
abbrev NB:=@PySem.AutoSeq1.wpAny_loadPart'
abbrev NC:=@PySem.codeAny_mono
abbrev ND:=@Int.zero_add
abbrev NF:=@PySem.mem_of_lookup
abbrev NG:=@u3
abbrev NH:=@List.Perm.nodup_iff
abbrev NI:=@PySem.Heap.get?_update_ne
abbrev NJ:=@List.cons.inj
abbrev NK:=@List.filter_cons_of_pos
abbrev NL:=@List.filter_cons_of_neg
abbrev NM:=@Nat.lt_succ_self
abbrev NN:=@Nat.le_add_right
abbrev NO:=@PySem.wpAny_isInstance
abbrev NP:=@J'
abbrev NQ:=@PySem.wpAny_setField
abbrev NR:=@PySem.Heap.size_after_update
abbrev NS:=@List.filter_eq_nil_iff
abbrev NT:=@PySem.wpAny_Call_Name_kw
abbrev NU:=@Int.emod_lt_of_pos
abbrev NV:=@List.mem_singleton
abbrev NW:=@List.getElem?_take
abbrev NX:=@PySem.wpAny_execs_nil
abbrev NY:=@PySem.wpAny_typeOf
abbrev NZ:=@List.mem_iff_getElem?
abbrev N0:=@PySem.codeAny_builtin
abbrev N1:=@PySem.Obj.isFreed_of_fields
abbrev N4:=@congrArg
abbrev N5:=@List.mem_range'_1
abbrev N6:=@PySem.wpAny_attempt
abbrev N7:=@PySem.wpAny_loadPart_at
abbrev N8:=@List.mem_append_left
abbrev N9:=@Bool.and_eq_true_iff
abbrev Oa:=@PySem.List.filterMap_getElem?_range_length
abbrev Ob:=@Classical.byContradiction
abbrev Oc:=@List.getElem?_zip_eq_some
abbrev Od:=@PySem.wpAny_forIn_list
abbrev Oe:=@Nat.succ_le_succ
abbrev Of:=@PySem.wpAny_askSetting
abbrev Og:=@Bool.not_eq_true
abbrev Oh:=@Nat.le_succ
abbrev Oi:=@List.getElem?_range
abbrev Oj:=@List.map_congr_left
abbrev Ol:=@PySem.F.args_tuple_add_2
abbrev Om:=@Nat.le_of_eq
abbrev On:=@List.Perm.eq_of_pairwise
abbrev Oo:=@List.range'_eq_map_range
abbrev Oq:=@List.of_mem_zip
abbrev Os:=@PySem.F.entry_tuple_add
abbrev Ot:=@Array.Perm.refl
abbrev Ou:=@Qy
abbrev Ov:=@Int.emod_nonneg
abbrev Ow:=@PyProof.Rows.F.plain_set_update_loop
abbrev Ox:=@beq_false_of_ne
abbrev Oy:=@Bool.eq_iff_iff
abbrev Oz:=@List.nil_append
abbrev OA:=@List.length_range'
abbrev OB:=@PySem.W.cellsFrom_some
abbrev OC:=@PySem.F.slot_tuple_add
abbrev OD:=@List.take_of_length_le
abbrev OE:=@PySem.W.kitx_list
abbrev OF:=@PySem.W.kitx_dict
abbrev OG:=@PySem.wpAny_call
abbrev OH:=@List.reverse_cons
abbrev OI:=@Nat.le_of_succ_le
abbrev OJ:=@List.ext_getElem?
abbrev OK:=@List.pairwise_map
abbrev OL:=@Prod.ext
abbrev OM:=@PySem.isSubtype_type
abbrev ON:=@PySem.isSubtype_stop
abbrev OO:=@List.length_singleton
abbrev OP:=@Nat.lt_trans
abbrev OQ:=@PySem.builtinLookup_eq_fast
abbrev OR:=@PySem.wpAny_pyIter_zip
abbrev OS:=@List.isEmpty_iff
abbrev OT:=@Array.mem_toList_iff
abbrev OU:=@PySem.Calls.evalArgs_plain
abbrev OV:=@List.mem_iff_getElem
abbrev OW:=@PySem.codeAny_call_builtin
abbrev OX:=@PySem.wpAny_updateSeq_pair
abbrev OY:=@PySem.F.args_tuple_iterator_next_1
abbrev OZ:=@p0
abbrev O0:=@PySem.wpAny_rule
abbrev O1:=@PyProof.Rows.intsAre_of
abbrev O2:=@List.mem_filter
abbrev O3:=@PyProof.Rows.entry_tuple_getitem
abbrev O4:=@List.length_reverse
abbrev O5:=@PySem.wpAny_setEntries_of
abbrev O6:=@PySem.F.entry_tuple_iterator_next
abbrev O7:=@PySem.F.slot_zip_next
abbrev O8:=@PySem.Calls.Name_function_global
abbrev O9:=@List.length_eraseIdx_of_lt
abbrev Pa:=@List.perm_ext_iff_of_nodup
abbrev Pb:=@PyProof.Rows.assignInOrder_cons
abbrev Pc:=@Array.find?_toList
abbrev Pd:=@List.zip_cons_cons
abbrev Pe:=@PyProof.Rows.args_tuple_getitem
abbrev Pf:=@List.getElem?_drop
abbrev Pg:=@PySem.Code.quiet_builtin
abbrev Ph:=@List.drop_eq_getElem_cons
abbrev Pi:=@Py
abbrev Pj:=@List.pairwise_iff_getElem
abbrev Pk:=@PySem.Calls.call_function_entry
abbrev Pl:=@PySem.wpAny_letOwnedTupleGo_zip
abbrev Pm:=@Bool.not_false
abbrev Pn:=@PySem.wpAny_pyIter_list
abbrev Po:=@PySem.W.kitx_none
abbrev Pp:=@List.getElem?_take_of_lt
abbrev Pq:=@List.take_sublist
abbrev Pr:=@PySem.wpAny_sequenceKey
abbrev Pu:=@List.nodup_append
abbrev Pw:=@Nat.mod_lt
abbrev Px:=@Nat.lt_trichotomy
abbrev Pz:=@Bool.eq_false_iff
abbrev PB:=@Array.getElem?_replicate
abbrev PC:=@PySem.Obj.cls_mapFields
abbrev PD:=@PySem.wpAny_pyIter_enum
abbrev PF:=@PySem.wpAny_Call_ofName
abbrev PH:=@List.flatMap_cons
abbrev PK:=@PySem.plainId_quiet
abbrev PL:=@PySem.wpAny_onRaise
abbrev PM:=@PySem.wpAny_eqBool_int
abbrev PN:=@List.getElem_inj
abbrev PP:=@PySem.wpAny_execs_cons
abbrev PQ:=@PySem.noFill_tuple_add
abbrev PR:=@List.length_drop
abbrev PU:=@Nat.le_of_not_lt
abbrev PV:=@Nat.succ_ne_self
abbrev PX:=@List.ext_getElem
abbrev PY:=@List.nodup_range
abbrev PZ:=@PySem.wpAny_loadPart'
abbrev P0:=@Nat.not_lt_zero
abbrev P1:=@PySem.pushCells_keeps
abbrev P2:=@Nat.min_le_left
abbrev P3:=@PySem.codeAny_of_tree
abbrev P4:=@PySem.typeLookup_type
abbrev P5:=@Bool.or_true
abbrev P6:=@List.length_zip
abbrev P7:=@beq_iff_eq
abbrev P8:=@PySem.Within.cons
abbrev Qc:=@LawfulBEq.eq_of_beq
abbrev Qe:=@List.map_take
abbrev Qg:=@List.any_cons
abbrev Qh:=@PySem.call_meets
abbrev Qi:=@Nat.not_lt
namespace KH
open PySem PySem.W PySem.Spec PyProof.Rows
def tp(i:Nat):Stmt:=PySem.Challenge.pw_tiewebs_k60_tie_maps.main.body.getD i (.Pass ⟨0,0,0,0⟩)
def iC:p4->p4
 | .ClassDef _ _ _ (b::_) .. =>b
 |s=>s
def dA(s:p4):Arguments:=match s with
 | .FunctionDef _ a _ _ _ _ _ _ _ _=>a
 |_=>{posonlyargs:=[],args:=[],vararg:=none,kwonlyargs:=[],kw_defaults:=[],kwarg:=none,defaults:=[]}
def dB(s:p4):List Stmt:=match s with
 | .FunctionDef _ _ b _ _ _ _ _ _ _=>b
 |_=>[]
def dS(s:p4):Scope:=match s with
 | .FunctionDef _ _ _ _ _ _ sc _ _ _=>sc
 |_=>{kind:=.function,names:=[],isGenerator:=c_,isCoroutine:=c_}
def zs(x:String)(t:Nat):Value:=.str (hO x) t
def ze(P:PJ)(x:String)(t:Nat)(v:aC):DictEntry:=⟨PyData.keyHash P (hO x),zs x t,v⟩
def zt(xs:Array aC):Obj:=⟨.type "tuple",none,.seq xs, #[]⟩
def zc(n q:String)(a:Nat)(l ac p5 p6 fl:Int)(r8:aC)(p10:Int)(r11 r13 r14 r15:aC)(p16:Int)(t:Nat):Obj:=⟨.type "code",none,.fields #[zs n a,zs q (a+1),zs "/claim/cut.py" (a+2),.int l 0,.int ac 0,.int p5 0,.int p6 0,.int fl 0,r8,.bool bc,.int p10 0,r11,.none,r13,r14,r15,.int p16 0,.int l 0,zs "/claim/cut.py" t], #[]⟩
def zf(n q:String)(st:p4)(kV dc pm:aC)(an:Option dt)(cd ct:aC):Data:=.func (D_ (hO n) (hO q) (dA st) (dB st) (dS st) .none kV dc pm an cd ct)
def zg(n q:String)(st:p4):Obj:=⟨.none,none,.func {name:=hO n,qualname:=hO q,params:=dA st,body:=.stmts (dB st),scope:=dS st,globals:=0,closure:=[],defaults:=.none,kwdefaults:=.none}, #[]⟩
def z0:Obj:=⟨.none,none,.fields #[],#[]⟩
def zp:Obj:=⟨.type "builtin_function_or_method",none,.fields #[.builtin "type.__prepare__",.type "type"],#[]⟩
def zu(a:Nat):Obj:=⟨.type "super",none,.fields #[.ref a,.ref a,.ref a],#[]⟩
def zi(a:Nat):Obj:=⟨.type "builtin_function_or_method",none,.fields #[.builtin "object.__init_subclass__",.ref a],#[]⟩
def zr(a b:Nat)(v:aC):Obj:=⟨.type "frame",none,.plain,#[ar (.ref a),ar (.ref 3),ar (.ref b),none,ar v,none,ar (.ref 0)]⟩
def zk(n:String)(a b c:Nat)(l:Int)(r:Nat)(m:Int)(s:Nat)(x y:Int)(t:Nat):Obj:=⟨.type "code",none,.fields #[zs n a,zs n b,zs "/claim/cut.py" c,.int l 0,.int 0 0,.int 0 0,.int 0 0,.int 0 0,.ref r,.bool c_,.int m 0,.ref s,.none,.none,.none,.none,.int x 0,.int y 0,zs "/claim/cut.py" t],#[]⟩
def zE(n:String)(i x a:Nat)(l ac fl:Int)(md:String)(m t:Nat):List Obj:=[zt #[],z0,zg n n (tp i),zc n n a l ac 0 0 fl (.ref x) 181 (.ref (x+1)) .none .none (.ref (x+2)) t (t+1),⟨.type "function",none,zf n n (tp i) .none .none (zs md m) none (.ref (x+3)) .none,#[]⟩]
def zD(n:String)(i x a:Nat)(l ac fl:Int)(v:Array aC)(md:String)(m t:Nat):List Obj:=[zt #[],z0,zt v,zt #[],zg n n (tp i),zc n n a l ac 0 0 fl (.ref x) 181 (.ref (x+1)) (.ref (x+2)) (.ref (x+3)) (.ref (x+4)) t (t+1),⟨.type "function",none,zf n n (tp i) .none .none (zs md m) none (.ref (x+5)) .none,#[]⟩]
def zC(P:PJ)(n:String)(a t l:Nat):List Obj:=[zp,⟨(.type "dict"),none,(.dict #[ze P "__module__" (t+5) (zs "tiewebs.errors" 187),ze P "__qualname__" (t+7) (zs n (t+6)),ze P "__firstlineno__" (t+9) (.int l (t+8)),ze P "__static_attributes__" (t+10) (.ref (a+6))] 4),#[]⟩,zt #[],z0,zk n t (t+1) (t+2) l (a+2) 181 (a+3) (t+3) l (t+4),zr (a+4) (a+1) (zs "tiewebs.errors" 187),zt #[],⟨(.type "dict"),none,(.dict #[ze P "__module__" (t+5) (zs "tiewebs.errors" 187),ze P "__firstlineno__" (t+9) (.int l (t+8)),ze P "__static_attributes__" (t+10) (.ref (a+6)),ze P "__doc__" (t+11) .none] 2),#[]⟩,⟨(.type "type"),none,(.cls ⟨(hO n),[(.ref 24)],[(.ref (a+8)),(.ref 24),(.type "ValueError"),(.type "Exception"),(.type "BaseException"),(.type "object")],(a+7),(hO n),bc,[],[],c_,none,c_⟩),#[ar (.ref (a-1)),none,ar (zs n (t-2)),ar (zs n (t+6)),ar (.builtin "ValueError.__new__"),ar (.bool bc)]⟩,zu (a+8),zi (a+8),zt #[(.ref 24)]]
def ml:String:="law_tiewebs_k60_tie_maps"
def L1(P:PJ):List Obj:=[boot_o_0 P,boot_o_1 P,boot_o_2 P,⟨(.type "dict"),none,(.dict #[ze P "__name__" 165 (zs ml 545),ze P "__doc__" 166 .none,ze P "__package__" 167 .none,ze P "__loader__" 168 (.builtin "__main__.__loader__#opaque"),ze P "__spec__" 169 .none,ze P "__annotations__" 170 (.ref 6),ze P "__builtins__" 171 (.ref 4),ze P "__file__" 173 (zs "/claim/cut.py" 172),ze P "__cached__" 174 .none,ze P "WebError" 206 (.ref 24),ze P "NoWeb" 222 (.ref 37),ze P "NoPlace" 238 (.ref 49),ze P "NoPlaces" 254 (.ref 61),ze P "NoMap" 270 (.ref 73),ze P "NoSharing" 286 (.ref 85),ze P "NoRoot" 302 (.ref 97),ze P "NoNumber" 318 (.ref 109),ze P "NotJoined" 334 (.ref 121),ze P "NoTie" 350 (.ref 133),ze P "NoText" 366 (.ref 145),ze P "NoLine" 382 (.ref 157),ze P "NoDeed" 398 (.ref 169),ze P "TooGreat" 425 (.ref 188),ze P "MOST_PLACES" 429 (.int 14 428),ze P "is_whole" 436 (.ref 197),ze P "is_pair" 443 (.ref 204),ze P "is_place" 451 (.ref 211),ze P "is_tie" 461 (.ref 218),ze P "is_rising" 467 (.ref 223),ze P "is_web" 473 (.ref 228),ze P "need_web" 480 (.ref 235),ze P "need_few_places" 488 (.ref 242),ze P "are_tied" 497 (.ref 249),ze P "MOST_MAPPED" 501 (.int 7 500),ze P "need_mapped" 509 (.ref 256),ze P "goes_on" 515 (.ref 261),ze P "ties_reached" 521 (.ref 266),ze P "map_holds" 527 (.ref 271),ze P "need_map" 538 (.ref 278),ze P "tie_map" 544 (.ref 283),ze P "_law_take" 556 (.ref 290),ze P "_law_bad_web" 564 (.ref 297),ze P "_law_refused" 570 (.ref 302),ze P "_law_same" 576 (.ref 307),ze P "_law_too_great" 587 (.ref 314),ze P "_law_cell_at" 595 (.ref 321),ze P "_law_state" 604 (.ref 328),ze P "_law_drawn" 610 (.ref 333),ze P "_law_made" 621 (.ref 340),ze P "_law_mixed" 631 (.ref 347),ze P "_law_few_ties" 648 (.ref 354),ze P "_law_named" 659 (.ref 361),ze P "_law_web" 665 (.ref 366),ze P "_law_bent_map" 678 (.ref 373),ze P "_law_whole" 685 (.ref 380),ze P "_law_tied" 694 (.ref 387),ze P "_law_is_map" 700 (.ref 392),ze P "_law_tie_map" 713 (.ref 399),ze P "_law_refusals_right" 725 (.ref 406),ze P "law" 731 (.ref 411)] 60),#[]⟩,boot_o_4 P,boot_o_5 P,boot_o_6 P,boot_o_7 P,boot_o_8 P,boot_o_9 P,boot_o_10 P,zt #[],⟨.none,none,(.fields #[(.int 2 0),(.int 0 0),(.ref 20),(.int 4 0),(.int 0 0),(.ref 33),(.int 6 0),(.int 0 0),(.ref 45),(.int 8 0),(.int 0 0),(.ref 57),(.int 10 0),(.int 0 0),(.ref 69),(.int 12 0),(.int 0 0),(.ref 81),(.int 14 0),(.int 0 0),(.ref 93),(.int 16 0),(.int 0 0),(.ref 105),(.int 18 0),(.int 0 0),(.ref 117),(.int 20 0),(.int 0 0),(.ref 129),(.int 22 0),(.int 0 0),(.ref 141),(.int 24 0),(.int 0 0),(.ref 153),(.int 26 0),(.int 0 0),(.ref 165),(.int 28 0),(.int 0 0),(.ref 177),(.int 35 0),(.int 0 0),(.ref 196),(.int 37 0),(.int 0 0),(.ref 203),(.int 39 0),(.int 0 0),(.ref 210),(.int 41 0),(.int 0 0),(.ref 217),(.int 46 0),(.int 0 0),(.ref 222),(.int 48 0),(.int 0 0),(.ref 227),(.int 55 0),(.int 0 0),(.ref 234),(.int 58 0),(.int 0 0),(.ref 241),(.int 62 0),(.int 0 0),(.ref 248),(.int 66 0),(.int 0 0),(.ref 255),(.int 71 0),(.int 0 0),(.ref 260),(.int 76 0),(.int 0 0),(.ref 265),(.int 78 0),(.int 0 0),(.ref 270),(.int 87 0),(.int 0 0),(.ref 277),(.int 90 0),(.int 0 0),(.ref 282),(.int 94 0),(.int 0 0),(.ref 289),(.int 103 0),(.int 0 0),(.ref 296),(.int 109 0),(.int 0 0),(.ref 301),(.int 123 0),(.int 0 0),(.ref 306),(.int 131 0),(.int 0 0),(.ref 313),(.int 140 0),(.int 0 0),(.ref 320),(.int 144 0),(.int 0 0),(.ref 327),(.int 149 0),(.int 0 0),(.ref 332),(.int 154 0),(.int 0 0),(.ref 339),(.int 162 0),(.int 0 0),(.ref 346),(.int 168 0),(.int 0 0),(.ref 353),(.int 181 0),(.int 0 0),(.ref 360),(.int 186 0),(.int 0 0),(.ref 365),(.int 200 0),(.int 0 0),(.ref 372),(.int 209 0),(.int 0 0),(.ref 379),(.int 211 0),(.int 0 0),(.ref 386),(.int 213 0),(.int 0 0),(.ref 391),(.int 225 0),(.int 0 0),(.ref 398),(.int 231 0),(.int 0 0),(.ref 405),(.int 241 0),(.int 0 0),(.ref 410)]),#[]⟩,⟨(.type "code"),none,(.fields #[(zs "<module>" 182),(zs "<module>" 183),(zs "/claim/cut.py" 184),(.int 1 0),(.int 0 0),(.int 0 0),(.int 0 0),(.int 0 0),(.ref 11),(.bool c_),(.int 181 0),(.ref 12),.none,.none,.none,.none,(.int 185 0),(.int 1 0),(zs "/claim/cut.py" 186)]),#[]⟩,zr 13 3 (zs "__main__" 164),zt #[(.type "ValueError")],zp,⟨(.type "dict"),none,(.dict #[ze P "__module__" 196 (zs "tiewebs.errors" 187),ze P "__qualname__" 198 (zs "WebError" 197),ze P "__firstlineno__" 200 (.int 2 199),ze P "__static_attributes__" 201 (.ref 22)] 4),#[]⟩,zt #[],z0,zk "WebError" 191 192 193 2 18 181 19 194 2 195,zr 20 17 (zs "tiewebs.errors" 187),zt #[],⟨(.type "dict"),none,(.dict #[ze P "__module__" 196 (zs "tiewebs.errors" 187),ze P "__firstlineno__" 200 (.int 2 199),ze P "__static_attributes__" 201 (.ref 22),ze P "__weakref__" 203 (.ref 25),ze P "__doc__" 204 .none] 3),#[]⟩,⟨(.type "type"),none,(.cls ⟨(hO "WebError"),[(.type "ValueError")],[(.ref 24),(.type "ValueError"),(.type "Exception"),(.type "BaseException"),(.type "object")],23,(hO "WebError"),bc,[],[(.ref 37),(.ref 49),(.ref 61),(.ref 73),(.ref 85),(.ref 97),(.ref 109),(.ref 121),(.ref 133),(.ref 145),(.ref 157),(.ref 169),(.ref 188)],c_,none,c_⟩),#[ar (.ref 15),none,ar (zs "WebError" 189),ar (zs "WebError" 197),ar (.builtin "ValueError.__new__"),ar (.bool bc)]⟩,⟨(.type "getset_descriptor"),none,(.fields #[(zs "__weakref__" 202),(.ref 24),(.builtin "ExceptionGroup.__weakref__"),.none]),#[]⟩,zu 24,zi 24,zt #[(.ref 24)]]++zC P "NoWeb" 29 209 4++zC P "NoPlace" 41 225 6++zC P "NoPlaces" 53 241 8++zC P "NoMap" 65 257 10++zC P "NoSharing" 77 273 12++zC P "NoRoot" 89 289 14++zC P "NoNumber" 101 305 16++zC P "NotJoined" 113 321 18++zC P "NoTie" 125 337 20++zC P "NoText" 137 353 22++zC P "NoLine" 149 369 24++zC P "NoDeed" 161 385 26++[zp,⟨(.type "dict"),none,(.dict #[ze P "__module__" 406 (zs "tiewebs.errors" 187),ze P "__qualname__" 408 (zs "TooGreat" 407),ze P "__firstlineno__" 410 (.int 28 409),ze P "__init__" 419 (.ref 185),ze P "__static_attributes__" 422 (.ref 186)] 5),#[]⟩,zt #[],⟨.none,none,(.fields #[(.int 30 0),(.int 4 0),(.ref 184)]),#[]⟩,zk "TooGreat" 401 402 403 28 175 181 176 404 28 405,zr 177 174 (zs "tiewebs.errors" 187),zt #[],z0,zt #[(zs "self" 414),(zs "many" 415),(zs "most" 416)],zt #[],zg "__init__" "TooGreat.__init__" (iC (tp 14)),zc "__init__" "TooGreat.__init__" 411 30 3 0 0 3 (.ref 179) 181 (.ref 180) (.ref 181) (.ref 182) (.ref 183) 417 418,⟨.type "function",none,(zf "__init__" "TooGreat.__init__" (iC (tp 14)) .none .none (zs "tiewebs.errors" 187) none (.ref 184) .none),#[]⟩,zt #[(zs "many" 420),(zs "most" 421)],⟨(.type "dict"),none,(.dict #[ze P "__module__" 406 (zs "tiewebs.errors" 187),ze P "__firstlineno__" 410 (.int 28 409),ze P "__init__" 419 (.ref 185),ze P "__static_attributes__" 422 (.ref 186),ze P "__doc__" 423 .none] 2),#[]⟩,⟨(.type "type"),none,(.cls ⟨(hO "TooGreat"),[(.ref 24)],[(.ref 188),(.ref 24),(.type "ValueError"),(.type "Exception"),(.type "BaseException"),(.type "object")],187,(hO "TooGreat"),bc,[],[],c_,none,c_⟩),#[ar (.ref 172),none,ar (zs "TooGreat" 399),ar (zs "TooGreat" 407),ar (.builtin "ValueError.__new__"),ar (.bool bc)]⟩,zu 188,zi 188]++zD "is_whole" 17 191 430 35 1 3 #[zs "thing" 433] "tiewebs.webs" 426 434++zD "is_pair" 18 198 437 37 1 3 #[zs "thing" 440] "tiewebs.webs" 426 441++zD "is_place" 19 205 444 39 2 3 #[zs "many" 447,zs "thing" 448] "tiewebs.webs" 426 449++zD "is_tie" 20 212 452 41 2 3 #[zs "many" 455,zs "thing" 456,zs "low" 457,zs "high" 458] "tiewebs.webs" 426 459++zE "is_rising" 21 219 462 46 1 3 "tiewebs.webs" 426 465++zE "is_web" 22 224 468 48 1 3 "tiewebs.webs" 426 471++zD "need_web" 23 229 474 55 1 3 #[zs "thing" 477] "tiewebs.webs" 426 478++zD "need_few_places" 24 236 481 58 2 3 #[zs "web" 484,zs "most" 485] "tiewebs.webs" 426 486++zD "are_tied" 25 243 489 62 3 3 #[zs "web" 492,zs "one" 493,zs "other" 494] "tiewebs.webs" 426 495++zD "need_mapped" 28 250 502 66 2 3 #[zs "one" 505,zs "other" 506] "tiewebs.maps" 498 507++zE "goes_on" 29 257 510 71 4 3 "tiewebs.maps" 498 513++zE "ties_reached" 30 262 516 76 2 3 "tiewebs.maps" 498 519++zE "map_holds" 31 267 522 78 3 3 "tiewebs.maps" 498 525++zD "need_map" 33 272 530 87 3 3 #[zs "one" 533,zs "other" 534,zs "thing" 535] "tiewebs.onlies" 528 536++zE "tie_map" 34 279 539 90 3 3 "tiewebs.onlies" 528 542++zD "_law_take" 36 284 547 94 2 3 #[zs "_law_state_here" 550,zs "_law_many" 551,zs "_law_found" 552,zs "_law_stirred" 553] ml 545 554++zD "_law_bad_web" 37 291 557 103 1 3 #[zs "_law_state_here" 560,zs "_law_some" 561] ml 545 562++zE "_law_refused" 38 298 565 109 1 3 ml 545 568++zE "_law_same" 39 303 571 123 2 3 ml 545 574++zD "_law_too_great" 40 308 577 131 3 3 #[zs "_law_call" 580,zs "_law_many" 581,zs "_law_most" 582,zs "_law_error" 583,zs "e" 584] ml 545 585++zD "_law_cell_at" 41 315 588 140 2 3 #[zs "_law_script" 591,zs "_law_k" 592] ml 545 593++zD "_law_state" 42 322 596 144 2 3 #[zs "_law_script" 599,zs "_law_k" 600,zs "_law_cell" 601] ml 545 602++zE "_law_drawn" 43 329 605 149 3 3 ml 545 608++zD "_law_made" 44 334 611 154 1 3 #[zs "_law_web_here" 614,zs "_law_ties" 615,zs "_law_found" 616,zs "_law_a" 617,zs "_law_b" 618] ml 545 619++zD "_law_mixed" 45 341 622 162 2 3 #[zs "_law_state_here" 625,zs "_law_many" 626,zs "_law_left" 627,zs "_law_found" 628] ml 545 629++zD "_law_few_ties" 46 348 632 168 2 3 #[zs "_law_state_here" 635,zs "_law_most" 636,zs "_law_many" 637,zs "_law_some" 638,zs "_law_ties" 639,zs "_law_at" 640,zs "_law_one" 641,zs "_law_other" 642,zs "_law_turn" 643,zs "_law_a" 644,zs "_law_b" 645] ml 545 646++zD "_law_named" 47 355 649 181 2 3 #[zs "_law_web_here" 652,zs "_law_names" 653,zs "_law_ties" 654,zs "_law_a" 655,zs "_law_b" 656] ml 545 657++zE "_law_web" 48 362 660 186 2 3 ml 545 663++zD "_law_bent_map" 49 367 666 200 2 3 #[zs "_law_state_here" 669,zs "_law_thing" 670,zs "_law_at" 671,zs "_law_to" 672,zs "_law_odd" 673,zs "_law_other" 674,zs "_law_some" 675] ml 545 676++zD "_law_whole" 50 374 679 209 1 3 #[zs "_law_thing" 682] ml 545 683++zD "_law_tied" 51 381 686 211 3 3 #[zs "_law_web_here" 689,zs "_law_one" 690,zs "_law_other" 691] ml 545 692++zE "_law_is_map" 52 388 695 213 3 3 ml 545 698++zD "_law_tie_map" 53 393 701 225 3 3 #[zs "_law_one" 704,zs "_law_other" 705,zs "_law_places" 706,zs "_law_found" 707,zs "_law_a" 708,zs "_law_b" 709,zs "_law_tie" 710] ml 545 711++[zt #[],z0,zt #[(zs "_law_state_here" 717),(zs "_law_web_here" 718)],zt #[(zs "_law_web_here" 719),(zs "_law_bad" 720),(zs "_law_great" 721),(zs "_law_greater" 722)],zg "_law_refusals_right" "_law_refusals_right" (tp 54),zc "_law_refusals_right" "_law_refusals_right" 714 231 2 0 0 3 (.ref 400) 181 (.ref 401) (.ref 402) (.ref 403) (.ref 404) 723 724,⟨.type "function",none,(zf "_law_refusals_right" "_law_refusals_right" (tp 54) .none .none (zs ml 545) none (.ref 405) .none),#[]⟩]++zE "law" 55 407 726 241 1 3 ml 545 729
def Lb(P:PJ):List Obj:=[boot_o_0 P,boot_o_1 P,boot_o_2 P,boot_o_3 P,boot_o_4 P,boot_o_5 P,boot_o_6 P,boot_o_7 P,boot_o_8 P,boot_o_9 P,boot_o_10 P,zt #[],z0,⟨(.type "code"),none,(.fields #[(zs "<module>" 182),(zs "<module>" 183),(zs "/claim/cut.py" 184),(.int 1 0),(.int 0 0),(.int 0 0),(.int 0 0),(.int 0 0),(.ref 11),(.bool c_),(.int 181 0),(.ref 12),.none,.none,.none,.none,(.int 185 0),(.int 1 0),(zs "/claim/cut.py" 186)]),#[]⟩,zr 13 3 (zs "__main__" 164)]
def as0:List Addr:=[2,3,15,22,23,24,25,28,35,36,37,40,47,48,49,52,59,60,61,64,71,72,73,76,83,84,85,88,95,96,97,100,107,108,109,112,119,120,121,124,131,132,133,136,143,144,145,148,155,156,157,160,167,168,169,172,179,181,182,184,185,186,187,188,191,193,194,196,197,198,200,201,203,204,205,207,208,210,211,212,214,215,217,218,219,222,223,224,227,228,229,231,232,234,235,236,238,239,241,242,243,245,246,248,249,250,252,253,255,256,257,260,261,262,265,266,267,270,271,272,274,275,277,278,279,282,283,284,286,287,289,290,291,293,294,296,297,298,301,302,303,306,307,308,310,311,313,314,315,317,318,320,321,322,324,325,327,328,329,332,333,334,336,337,339,340,341,343,344,346,347,348,350,351,353,354,355,357,358,360,361,362,365,366,367,369,370,372,373,374,376,377,379,380,381,383,384,386,387,388,391,392,393,395,396,398,399,400,402,403,405,406,407,410,411]
def ts0:List Addr:=[401,408]
def vq:Program:={PySem.Challenge.pw_tiewebs_k60_tie_maps with main:={PySem.Challenge.pw_tiewebs_k60_tie_maps.main with body:=[tp 1,tp 2,tp 3,tp 4,tp 5,tp 6,tp 7,tp 8,tp 9,tp 10,tp 11,tp 12,tp 13,tp 14,tp 16,tp 17,tp 18,tp 19,tp 20,tp 21,tp 22,tp 23,tp 24,tp 25,tp 27,tp 28,tp 29,tp 30,tp 31,tp 33,tp 34,tp 36,tp 37,tp 38,tp 39,tp 40,tp 41,tp 42,tp 43,tp 44,tp 45,tp 46,tp 47,tp 48,tp 49,tp 50,tp 51,tp 52,tp 53,tp 54,tp 55]}}
def alt:Bool->List Obj->List Obj
 |_,[]=>[]
 |true,a::r=>a::alt c_ r
 |false,_::r=>alt bc r
def toT:Nat->List Obj->BT
 |0,_=>.nil
 |_+1,[]=>.nil
 |f+1,o::r=>.node o (toT f (alt bc r)) (toT f (alt c_ r))
def pick:Nat->List dt->List Obj->dV
 |i,as,o::os=>match as with
  |a::r=>if Nat.beq i a then (a,o)::pick (i+1) r os else pick (i+1) (a::r) os
  |[]=>[]
 |_,_,[]=>[]
def K0(P:PJ):W.Frag:=pick 0 as0 (L1 P)
theorem as0_eq:∀P,as0=(K0 P).map (·.1):=fun _=>by kernel_rfl
abbrev pw:Program:=PySem.Challenge.pw_tiewebs_k60_tie_maps
abbrev Xt0(s:b_):Bool:=xlAt vq [] s && recOk (RowW.records (OpenRow.toRowW (OpenLaw.row PySem.Challenge.rw_tiewebs_k60_tie_maps))) s
def lf:Life:={}
def en:Env:={scope:=pw.main.scope,locals:=mainNs,globals:=mainNs,cells:=[],code:=(.ref 13),frame:=ar 14}
abbrev cE:Code:=.body (K_ pw) en
abbrev Bf:List Frame:=[topFrame ⟨0,0,0,0⟩]
abbrev S0(w:eM)(os:Qn):Shared:=⟨C_ w.params,y_ [],boot_drawn,boot_toks,os⟩
abbrev Sb(w:eM)(os:Qn):SharedT:=⟨toT 12 (Lb w.params),15,lf,y_ [],⟨0,0,0,0⟩,187,os⟩
abbrev Sm(w:eM)(os:Qn):SharedT:=⟨toT 12 (L1 w.params),412,lf,y_ [],⟨0,0,0,0⟩,732,os⟩
abbrev Sf(w:eM)(os:Qn):Shared:=⟨⟨y_ (L1 w.params),lf⟩,y_ [],⟨0,0,0,0⟩,732,os⟩
theorem Kg:∀w,(fun os=>topGo K' pw w 11 (ar (.ref 6)) 12 (S0 w os) (topStub pw))=fun os=>ar ((Sb w os).abs,⟨denote K' cE,cE,⟨0,0,0,0⟩,Bf⟩):=fun w=>by kernel_rfl
theorem Gd:∀w,(fun os=>segRun K' pw w 11 (ar (.ref 6)) 1 1 (Sb w os).abs (blockOf (K_ pw) en cE ⟨0,0,0,0⟩ Bf))=fun os=>ar (.next,(Sb w os).abs,cE,⟨0,0,0,0⟩):=fun w=>by kernel_rfl
theorem IB:∀w,(fun os=>segRunT K' pw w 11 (ar (.ref 6)) 1 4093 (Sb w os) (piecesOf (K_ pw) en cE ⟨0,0,0,0⟩ Bf))=fun os=>ar (.next,Sm w os,cE,⟨241,0,258,15⟩):=fun w=>by kernel_rfl
theorem Kh:∀w,(fun os=>topRun K' pw w 11 (ar (.ref 6)) 2 (Sm w os).abs ⟨doneF .next,cE,⟨241,0,258,15⟩,Bf⟩)=fun os=>ar (Sf w os):=fun w=>by kernel_rfl
theorem Ki(w:eM)(os:Qn):topRun K' pw w 11 (ar (.ref 6)) (12+(1+(4093+2))) (S0 w os) (topStub pw)=ar (Sf w os):=
 go_top (Mz (Kg w) os) (piece_block (Mz (Gd w) os) (by
  have:=piece_app (rest:=[]) (segRun_of (Mz (IB w) os)) (piece_nil (Mz (Kh w) os));rw[MI]at this;exact this))
theorem IC:∀w:eM,((C_ w.params).isNs f' && (y_ []:Array P9).size==0,(C_ w.params).objs.size,(C_ w.params).nsMap f' "__annotations__")=(bc,11,(ar (.ref 6))):=fun w=>by kernel_rfl
theorem ID:∀w os,(staticsOk (ll pw.main.body) (C_ w.params) (Sf w os).heap && namesBound pw (Sf w os).heap && gensDone (Sf w os) && laidKept (C_ w.params) (Sf w os).heap)=true:=fun w os=>by kernel_rfl
theorem Kj:∀w os,(wG vq [] (ll pw.main.body) Xt0 bc (Sf w os)).1=(w6 vq []).1:=fun w os=>by kernel_rfl
theorem Kk:∀w os,(wG vq [] (ll pw.main.body) Xt0 bc (Sf w os)).2.1=(w6 vq []).2.1:=fun w os=>by kernel_rfl
theorem Kl:∀w os,(wG vq [] (ll pw.main.body) Xt0 bc (Sf w os)).2.2.1=(w6 vq []).2.2.1:=fun w os=>by kernel_rfl
theorem Km:∀w os,(wG vq [] (ll pw.main.body) Xt0 bc (Sf w os)).2.2.2.1=(w6 vq []).2.2.2.1:=fun w os=>by kernel_rfl
theorem Kn:∀w os,(wG vq [] (ll pw.main.body) Xt0 bc (Sf w os)).2.2.2.2.1=(w6 vq []).2.2.2.2.1:=fun w os=>by kernel_rfl
theorem Ko:∀w os,(wG vq [] (ll pw.main.body) Xt0 bc (Sf w os)).2.2.2.2.2.1=(w6 vq []).2.2.2.2.2.1:=fun w os=>by kernel_rfl
theorem Kq:∀w os,(wG vq [] (ll pw.main.body) Xt0 bc (Sf w os)).2.2.2.2.2.2.1=(w6 vq []).2.2.2.2.2.2.1:=fun w os=>by kernel_rfl
theorem Kr:∀w os,(wG vq [] (ll pw.main.body) Xt0 bc (Sf w os)).2.2.2.2.2.2.2.1=(w6 vq []).2.2.2.2.2.2.2.1:=fun w os=>by kernel_rfl
theorem Ks:∀w os,(wG vq [] (ll pw.main.body) Xt0 bc (Sf w os)).2.2.2.2.2.2.2.2=(w6 vq []).2.2.2.2.2.2.2.2:=fun w os=>by kernel_rfl
theorem IE:∀w os,RK (P_ K0 as0 as0_eq ts0) (Sf w os)=RL (P_ K0 as0 as0_eq ts0) w:=fun w os=>by kernel_rfl
theorem IF(w:eM)(os:Qn):wG vq [] (ll pw.main.body) Xt0 bc (Sf w os)=w6 vq []:=OL (Kj w os) (OL (Kk w os) (OL (Kl w os) (OL (Km w os) (OL (Kn w os) (OL (Ko w os) (OL (Kq w os) (OL (Kr w os) (Ks w os))))))))
theorem left0:LeftO (OpenLaw.row PySem.Challenge.rw_tiewebs_k60_tie_maps).prog vq [] Xt0 (RK (P_ K0 as0 as0_eq ts0)) (RL (P_ K0 as0 as0_eq ts0)) 8310:=
 LeftO.of_pieces (p:=pw) (H₀:=C_) (H₁:=fun P=>⟨y_ (L1 P),lf⟩) (gs₀:=y_ []) (gs₁:=y_ []) (d₀:=boot_drawn) (d₁:=⟨0,0,0,0⟩) (k₀:=boot_toks) (k₁:=732) (M:=12+(1+(4093+2))) (boot_open (p:=pw) (by kernel_rfl) (by decide) (fun s=>by kernel_rfl)) IC Ki (by decide) fun w=>funext fun os=>OL (ID w os) (OL (IF w os) (IE w os))
end KH
section
namespace L2
open PySem PySem.Spec PyProof.Rows
abbrev Key:=Sum Int Str
def FI:Key->aC->Bool
 | .inl k,v=>Value.isInt k v
 | .inr x,v=>Value.isStrOf x v
def Kt(w:eM):Key->Int
 | .inl k=>hashInt k
 | .inr x=>hashStr w x
theorem c9:∀{k:Key} {v:aC},FI k v=bc->(∃i t,k=Qo i/\v=pe i t)\/(∃x t,k=Qp x/\v=LI x t)
 | .inl i,v,h=>by
  obtain⟨t,e⟩:=Value.isInt_shape (k:=i) (v:=v) h;exact .inl ⟨i,t,rfl,e⟩
 | .inr x,v,h=>by
  obtain⟨t,e⟩:=Value.isStrOf_shape (x:=x) (v:=v) h;exact .inr ⟨x,t,rfl,e⟩
theorem Ge(a b:Int):decide ((Qo a:Key)=Qo b)=(a==b):=by
 by_cases e:a=b
 ·subst e;simp
 ·have h:¬ (Qo a:Key)=Qo b:=fun q=>e (Sum.inl.inj q);rw[Mj h];exact(beq_eq_false_iff_ne.mpr e).symm
theorem Gf(a b:Str):decide ((Qp a:Key)=Qp b)=decide (a=b):=by
 by_cases e:a=b
 ·subst e;simp
 ·have h:¬ (Qp a:Key)=Qp b:=fun q=>e (Sum.inr.inj q);rw[Mj h,Mj e]
theorem Gg(a:Int)(b:Str):decide ((Qo a:Key)=Qp b)=false:=Mj (fun q=>nomatch q)
theorem Gh(a:Str)(b:Int):decide ((Qp a:Key)=Qo b)=false:=Mj (fun q=>nomatch q)
def yx(prog:ee)(w:eM):PySem.KeyKind prog w Key where
 is:=FI
 hash:=Kt w
 inj:=fun v a b ha hb=>by
  rcases c9 ha with⟨i,t,rfl,rfl⟩|⟨x,t,rfl,rfl⟩
  ·rcases c9 hb with⟨j,u,rfl,e⟩|⟨y,u,rfl,e⟩
   ·injection e with e1 _;rw[e1]
   ·exact nomatch e
  ·rcases c9 hb with⟨j,u,rfl,e⟩|⟨y,u,rfl,e⟩
   ·exact nomatch e
   ·injection e with e1 _;rw[e1]
 byValue:=fun k v h=>by
  rcases c9 h with⟨i,t,rfl,rfl⟩|⟨x,t,rfl,rfl⟩<;>rfl
 pyHash:=fun hv h=>by
  rcases c9 hv with⟨i,t,rfl,rfl⟩|⟨x,t,rfl,rfl⟩
  ·exact wpAny_pyHash_int h
  ·exact wpAny_pyHash_str h
 eqBool:=fun hu hv h=>by
  rcases c9 hu with⟨i,t,rfl,rfl⟩|⟨x,t,rfl,rfl⟩
  ·rcases c9 hv with⟨j,u,rfl,rfl⟩|⟨y,u,rfl,rfl⟩
   ·rw[Ge]at h;exact PM h
   ·rw[Gg]at h;exact SeqAt.EqAt.int_str i t y u _ _ _ _ h
  ·rcases c9 hv with⟨j,u,rfl,rfl⟩|⟨y,u,rfl,rfl⟩
   ·rw[Gh]at h;exact SeqAt.EqAt.str_int x t j u _ _ _ _ h
   ·rw[Gf]at h;exact wpAny_eqBool_str h
 «strs»:=fun k x t v h=>by
  rcases c9 h with⟨i,u,rfl,e⟩|⟨y,u,rfl,e⟩
  ·exact nomatch e
  ·injection e with e1 _;subst e1;cases v<;>rfl
end L2
namespace L2
open PySem PySem.Spec PyProof.Rows
inductive V where
 |non|bl (b:Bool)|int (i:Int)|str (x:Str)|byt (b:Array UInt8)|flt (b:UInt64)|ref (a:dt)|ty (n:String)
 deriving DecidableEq
def RelV:V->aC->Prop
 | .non,u=>u=hJ
 | .bl b,u=>u=t4 b
 | .int i,u=>∃t,u=pe i t
 | .str x,u=>∃t,u=LI x t
 | .byt b,u=>∃t,u=Value.bytes b t
 | .flt b,u=>∃t,u=Qa b t
 | .ref a,u=>u=er a
 | .ty n,u=>u=t5 n
abbrev bh:List V->List aC->Prop:=Paired RelV
theorem bh.length{xs:List V}{us:List aC}(r:bh xs us):xs.length=us.length:=Paired.length r
theorem bh.get:∀{xs:List V} {us:List aC} {i:Nat} {x:V},bh xs us->xs[i]? =ar x->∃u,us[i]? =ar u/\RelV x u
 |_,_,_,_,.nil,e=>by simp at e
 |_,_,0,_,.cons r _,e=>by simp at e;subst e;exact⟨_,rfl,r⟩
 |_,_,i+1,x,.cons _ t,e=>by
  obtain⟨u,Y,Z⟩:=bh.get (i:=i) (x:=x) t (by simpa using e)
  exact⟨u,by simpa using Y,Z⟩
theorem bh.set(r:RelV x u):∀{xs:List V} {us:List aC} (i:Nat),bh xs us->bh (xs.set i x) (us.set i u)
 |_,_,_,.nil=>.nil
 |_,_,0,.cons _ t=>.cons r t
 |_,_,i+1,.cons q t=>.cons q (bh.set r i t)
theorem bh.append:∀{xs ys:List V} {us ws:List aC},bh xs us->bh ys ws->bh (xs++ys) (us++ws)
 |_,_,_,_,.nil,s=>s
 |_,_,_,_,.cons r t,s=>.cons r (bh.append t s)
theorem bh.take:∀{xs:List V} {us:List aC} (n:Nat),bh xs us->bh (xs.take n) (us.take n)
 |_,_,0,_=>.nil
 |_,_,_+1,.nil=>.nil
 |_,_,n+1,.cons r t=>.cons r (bh.take n t)
theorem bh.drop:∀{xs:List V} {us:List aC} (n:Nat),bh xs us->bh (xs.drop n) (us.drop n)
 |_,_,0,r=>r
 |_,_,_+1,.nil=>.nil
 |_,_,n+1,.cons _ t=>bh.drop n t
def tJ:Option V->Option aC->Prop
 |some v,ar u=>RelV v u
 |none,none=>True
 |_,_=>False
def KV{κ:Type}:List (κ×V)->List (κ×aC)->Prop:=Paired fun(p:κ×V) (q:κ×aC)=>p.1=q.1/\RelV p.2 q.2
def kV:Key->V
 | .inl i=>.int i
 | .inr x=>.str x
inductive HO where
 |lst (xs:List V)
 |tup (xs:List V)
 |dK (kvs:List (Key×V))|dT (kvs:List (List Key×V))
 |set (S:Int->Bool) (n:Nat)
 |ins (C dx:dt) (fs:List (Str×V))
 |own (x:dt)
 |xd (fs:List (Str×V))
 |met (f x:dt)
 |rng (lo hi:Int)
 |frz (o:Obj) (u:HO)
 |tbl (ps:Array aC)
 |ext (φ:fg->Prop)
abbrev Hp:=dt->Option HO
def upd(H:Hp)(a:dt)(o:HO):Hp:=fun b=>if b=a then ar o else H b
theorem aV:upd H a o a=ar o:=by unfold upd;rw[if_pos rfl]
theorem aI{H:Hp}(h:b≠a):upd H a o b=H b:=by unfold upd;rw[if_neg h]
theorem tK:upd (upd H a o) a u=upd H a u:=by
 funext b;unfold upd;split<;>rfl
theorem aR{H:Hp}(h:H a=ar o)(h':H b=none):a≠b:=by
 intro e;subst e;rw[h]at h';cases h'
section
variable (P:ee)(w:eM)
def bo(H:Hp)(h:fg)(a:dt):HO->Prop
 | .lst xs=>xs.length<=sizeLine/\∃(its:List aC) (n:Nat),bh xs its/\h.get? a=ar {cls:=.type "list",data:=.seq its.toArray n}
 | .tup xs=>(xs.length<=sizeLine/\∃o,h.get? a=ar o/\o.dict=none)/\∃its:List aC,bh xs its/\Rw h a its.toArray
 | .dK kvs=>kvs.length<=sizeLine/\(a==Rf)=c_/\∃vs,KV kvs vs/\h.DictOf (yx P w) a vs
 | .dT kvs=>kvs.length<=sizeLine/\(a==Rf)=c_/\∃xs:List (List Key×dt×aC),
   Paired (fun(p:List Key×V) (q:List Key×dt×aC)=>p.1=q.1/\H q.2.1=ar (.tup (p.1.map kV))/\RelV p.2 q.2.2) kvs xs/\
   ∃o es ep,h.get? a=ar o/\o.ExactDict/\o.data= .dict es ep/\es.toList=xs.map (entryOfKey (tupleKind (yx P w)))/\(xs.map (·.1)).Nodup
 | .set S n=>h.SetOf (n_ P w) a S n
 | .ins C dx fs=>H dx=ar (.own a)/\fs.length<=1000/\dx≠a/\h.get? a=ar (Rx C dx)/\
   ∃mA,h.Ns1 dx mA/\(∀f,tJ (fs.lookup f) (mA f))/\PySem.Within mA (fs.map (·.1))
 | .own _=>∃o,h.get? a=ar o
 | .xd fs=>∃mA,h.Ns1 a mA/\∀f,tJ (fs.lookup f) (mA f)
 | .rng lo hi=>∃t u v,h.get? a=ar {cls:=.type "range",data:=.fields #[.int lo t,.int hi u,.int 1 v]}
 | .frz o u=>h.get? a=ar o/\bo H h a u
 | .tbl ps=>h.get? a=ar {cls:=.none,data:=.fields ps}
 | .met f x=>h.get? a=ar (Q4 (.ref f) (.ref x))
 | .ext φ=>φ h/\(∃o,h.get? a=ar o)/\∀h1 h2:fg,φ h1->(∀o,h1.get? a=ar o->h2.get? a=ar o)->φ h2
theorem pR{h:fg}{xs:List V}{items:Array aC}(z:xs.length<=sizeLine):xs.length<=sizeLine/\∃o,(h.push {cls:=.type "tuple",data:=.seq items}).get? h.objs.size=ar o/\o.dict=none:=⟨z,_,L3 _ rfl,rfl⟩
def gR(H:Hp)(h:fg):Prop:=∀a o,H a=ar o->bo P w H h a o
end
section
variable {P:ee}{w:eM}{H H':Hp}{h h':fg}{a:dt}{o:HO}
theorem bo.lt(x:bo P w H h a o):a<h.objs.size:=by
 cases o with
 |lst xs=>obtain⟨_,_,_,_,e⟩:=x;exact LZ e
 |tup xs=>obtain⟨_,_,_,p⟩:=x;exact p.lt
 |dK kvs=>obtain⟨_,_,_,_,o,_,_,e,_⟩:=x;exact LZ e
 |dT kvs=>obtain⟨_,_,_,_,o,_,_,e,_⟩:=x;exact LZ e
 |set S n=>obtain⟨o,_,_,_,e,_⟩:=x;exact LZ e
 |ins C dx fs=>obtain⟨_,_,_,e,_⟩:=x;exact LZ e
 |own y=>obtain⟨_,e⟩:=x;exact LZ e
 |xd fs=>obtain⟨_,⟨_,_,_,e,_⟩,_⟩:=x;exact LZ e
 |rng lo hi=>obtain⟨_,_,_,e⟩:=x;exact LZ e
 |frz ob u=>obtain⟨e,_⟩:=x;exact LZ e
 |tbl ps=>exact LZ (show h.get? a=ar _ from x)
 |met f y=>exact LZ (show h.get? a=ar _ from x)
 |ext φ=>obtain⟨_,⟨_,e⟩,_⟩:=x;exact LZ e
theorem Paired.mapP{α Z:Type}{F G:α->Z->Prop}:∀{l₁:List α} {l₂:List Z},Paired F l₁ l₂->(∀a b,F a b->G a b)->Paired G l₁ l₂
 |_,_,.nil,_=>.nil
 |_,_,.cons r t,f=>.cons (f _ _ r) (Paired.mapP t f)
theorem bo.stay(x:bo P w H h a o)(k:∀b u,(b=a\/H b=ar (.own a))->h.get? b=ar u->h'.get? b=ar u)
  (X:∀b,H b=ar (.own a)->H' b=ar (.own a)) (U:∀b xs,H b=ar (.tup xs)->H' b=ar (.tup xs)):bo P w H' h' a o:=by
 induction o with
 |lst xs=>obtain⟨z,its,n,r,e⟩:=x;exact⟨z,its,n,r,k _ _ (.inl rfl) e⟩
 |tup xs=>obtain⟨⟨z,R,Y,T⟩,its,r,Z,e,c⟩:=x;exact⟨⟨z,R,k _ _ (.inl rfl) Y,T⟩,its,r,Z,k _ _ (.inl rfl) e,c⟩
 |dK kvs=>obtain⟨z,y,vs,r,Z,es,ep,e,c⟩:=x;exact⟨z,y,vs,r,Z,es,ep,k _ _ (.inl rfl) e,c⟩
 |dT kvs=>
  obtain⟨z,y,xs,r,Z,es,ep,e,c⟩:=x;exact⟨z,y,xs,Paired.mapP r fun p q z=>⟨z.1,U _ _ z.2.1,z.2.2⟩,Z,es,ep,k _ _ (.inl rfl) e,c⟩
 |set S n=>obtain⟨Z,es,ep,t,e,c⟩:=x;exact⟨Z,es,ep,t,k _ _ (.inl rfl) e,c⟩
 |ins C dx fs=>
  obtain⟨d,z,ne,e,mA,⟨od,es,ep,e2,c⟩,r⟩:=x;exact⟨X _ d,z,ne,k _ _ (.inl rfl) e,mA,⟨od,es,ep,k _ _ (.inr d) e2,c⟩,r⟩
 |own y=>obtain⟨Z,e⟩:=x;exact⟨Z,k _ _ (.inl rfl) e⟩
 |xd fs=>obtain⟨mA,⟨od,es,ep,e,c⟩,r⟩:=x;exact⟨mA,⟨od,es,ep,k _ _ (.inl rfl) e,c⟩,r⟩
 |rng lo hi=>obtain⟨t,u,v,e⟩:=x;exact⟨t,u,v,k _ _ (.inl rfl) e⟩
 |frz Z u ih=>obtain⟨e,q⟩:=x;exact⟨k _ _ (.inl rfl) e,ih q⟩
 |tbl ps=>
  have e:h.get? a=ar {cls:=.none,data:=.fields ps}:=x;show h'.get? a=ar {cls:=.none,data:=.fields ps};exact k a _ (.inl rfl) e
 |met f y=>
  have e:h.get? a=ar (Q4 (.ref f) (.ref y)):=x;show h'.get? a=ar (Q4 (.ref f) (.ref y));exact k a _ (.inl rfl) e
 |ext φ=>obtain⟨p,⟨o,e⟩,st⟩:=x;exact⟨st _ _ p fun o q=>k _ _ (.inl rfl) q,⟨o,k _ _ (.inl rfl) e⟩,st⟩
theorem gR.lt(x:gR P w H h)(e:H a=ar o):a<h.objs.size:=(x a o e).lt
theorem gR.fresh(x:gR P w H h)(e:h.objs.size<=a):H a=none:=by
 cases q:H a with
 |none=>rfl
 |some u=>exact absurd (Mc (x.lt q) e) (Nm _)
theorem gR.kept(x:gR P w H h)(k:∀b u,h.get? b=ar u->h'.get? b=ar u):gR P w H h':=fun a o e=>
 (x a o e).stay (fun b u _ q=>k b u q) (fun _ q=>q) fun _ _ q=>q
theorem gR.laid(x:gR P w H h)(k:∀b u,h.get? b=ar u->h'.get? b=ar u)(X:h.objs.size<=a)(Z:bo P w (upd H a o) h' a o):gR P w (upd H a o) h':=fun b u e=>by
 have Y:=x.fresh X;by_cases hb:b=a
 ·subst hb;rw[aV]at e;cases e;exact Z
 ·rw[aI hb]at e;exact(x b u e).stay (fun c v _ q=>k c v q) (fun c q=>by rw[aI (aR q Y)];exact q) fun c xs q=>by rw[aI (aR q Y)];exact q
end
def Rd(H:Hp)(a:dt)(u:HO):Prop:=H a=ar u\/∃o,H a=ar (.frz o u)
theorem Rd.ok{P:ee}{w:eM}{H:Hp}{h:fg}{a:dt}{u:HO}(r:Rd H a u)(x:gR P w H h):bo P w H h a u:=by
 rcases r with r|⟨o,r⟩
 ·exact x a u r
 ·obtain⟨_,q⟩:=x a _ r;exact q
def J5:Option HO->Prop
 |some (.lst _)=>True
 |some (.dK _)=>True
 |some (.dT _)=>True
 |some (.set _ _)=>True
 |some (.ins _ _ _)=>True
 |some (.ext _)=>True
 |_=>False
section
variable {P:ee}{w:eM}{H:Hp}{h h':fg}{x e:dt}{o':HO}
theorem gR.write(Q:gR P w H h)(W:J5 (H x))(R:e=x\/H e=ar (.own x))(k:∀b u,b≠e->h.get? b=ar u->h'.get? b=ar u)(T:∃u,h'.get? e=ar u)
  (U:bo P w (upd H x o') h' x o'):gR P w (upd H x o') h':=fun b u q=>by
 have Z:∀c y,H c=ar (.own y)->c≠x:=fun c y r z=>by subst z;rw[r]at W;exact W
 have Y:∀c xs,H c=ar (.tup xs)->c≠x:=fun c xs r z=>by subst z;rw[r]at W;exact W
 by_cases hb:b=x
 ·subst hb;rw[aV]at q;cases q;exact U
 ·rw[aI hb]at q;by_cases hbe:b=e
  ·have S:H b=ar (.own x):=by
    rcases R with z|z
    ·exact absurd (hbe.trans z) hb
    ·rw[hbe];exact z
   rw[q]at S;cases S;obtain⟨v,O⟩:=T;exact⟨v,by rw[hbe];exact O⟩
  ·refine(Q b u q).stay (fun c v X r=>k c v ?_ r) (fun c r=>by rw[aI (Z c b r)];exact r) fun c xs r=>by rw[aI (Y c xs r)];exact r
   rcases X with rfl|X
   ·exact hbe
   ·rintro rfl;rcases R with z|z
    ·exact Z c b X z
    ·rw[X]at z;cases z;exact hb rfl
end
structure Un(fs ex:List dt)(H H':Hp)(h h':fg):Prop where
 keep:∀b o,h.get? b=ar o->H b=none->b∉fs->b∉ex->h'.get? b=ar o
 slot:∀b o,h.get? b=ar o->H b=none->b∈fs->b∉ex->∃sl,h'.get? b=ar {o with slots:=sl}
 free:∀b o,h.get? b=ar o->H b=none->b∉ex->H' b=none
 there:∀b o,h.get? b=ar o->b∉ex->∃o',h'.get? b=ar o'
 tups:∀b xs,H b=ar (.tup xs)->H' b=ar (.tup xs)
 frzs:∀b o u,H b=ar (.frz o u)->H' b=ar (.frz o u)
 tbls:∀b ps,H b=ar (.tbl ps)->∃more,H' b=ar (.tbl (ps++more))
section
variable {fs fs' ex ex':List dt}{H H1 H2:Hp}{h h1 h2 h':fg}{a x e:dt}{o:HO}
theorem Un.any(u:Un fs ex H H1 h h1)(q:h.get? b=ar ob)(n:H b=none)(Z:b∉ex):∃sl,h1.get? b=ar {ob with slots:=sl}:=by
 by_cases hb:b∈fs
 ·exact u.slot b ob q n hb Z
 ·exact⟨ob.slots,u.keep b ob q n hb Z⟩
theorem Un.kept(k:∀b u,h.get? b=ar u->h'.get? b=ar u):Un fs ex H H h h':=
 ⟨fun b Z q _ _ _=>k b Z q,fun b Z q _ _ _=>⟨Z.slots,k b Z q⟩,fun _ _ _ n _=>n,fun b Z q _=>⟨Z,k b Z q⟩,fun _ _ q=>q,fun _ _ _ q=>q,fun _ Y q=>⟨#[],by rw[q];simp⟩⟩
theorem Un.refl:Un fs ex H H h h:=Un.kept fun _ _ q=>q
theorem Un.laid(k:∀b u,h.get? b=ar u->h'.get? b=ar u)(Y:h.objs.size<=a)(Z:H a=none):Un fs ex H (upd H a o) h h' where
 keep:=fun b u q _ _ _=>k b u q
 slot:=fun b u q _ _ _=>⟨u.slots,k b u q⟩
 free:=fun b u q n _=>by rw[aI (L7 (Mc (LZ q) Y))];exact n
 there:=fun b u q _=>⟨u,k b u q⟩
 tups:=fun b xs q=>by rw[aI (aR q Z)];exact q
 frzs:=fun b u xs q=>by rw[aI (aR q Z)];exact q
 tbls:=fun b X q=>⟨#[],by rw[aI (aR q Z),q];simp⟩
theorem Un.write(Z:J5 (H x))(U:e=x\/H e=ar (.own x))(k:∀b u,b≠e->h.get? b=ar u->h'.get? b=ar u)(Y:∃u,h'.get? e=ar u):Un fs ex H (upd H x o) h h':=by
 have X:∀b,H b=none->b≠x:=fun b n z=>by subst z;rw[n]at Z;exact Z
 have W:∀b,H b=none->b≠e:=fun b n z=>by
  subst z;rcases U with r|r
  ·exact X b n r
  ·rw[n]at r;cases r
 have hm:∀b u,H b=ar u->¬ J5 (ar u)->b≠x:=fun b u q nm z=>by subst z;rw[q]at Z;exact nm Z
 refine⟨fun b u q n _ _=>k b u (W b n) q,fun b u q n _ _=>⟨u.slots,k b u (W b n) q⟩,fun b u q n _=>by rw[aI (X b n)];exact n,fun b u q _=>?_,
  fun b xs q=>by rw[aI (hm b _ q fun z=>z)];exact q,fun b u xs q=>by rw[aI (hm b _ q fun z=>z)];exact q,fun b T q=>⟨#[],by rw[aI (hm b _ q fun z=>z),q];simp⟩⟩
 by_cases hbe:b=e
 ·subst hbe;exact Y
 ·exact⟨u,k b u hbe q⟩
end
def J6(h:fg)(H:Hp):List Addr:=(ed h.objs.size).filter fun a=>(H a).isSome
def lu(h:fg)(H:Hp):Heap:=W.hideAll h (J6 h H)
theorem nG(h:fg)(H:Hp):(lu h H).objs.size=h.objs.size:=W.hideAll_size _ _
theorem mx{h:fg}{H:Hp}(e:h.get? b=ar o)(n:H b=none):(lu h H).get? b=ar o:=
 W.hideAll_get _ e fun hm=>by
  have q:(H b).isSome=true:=(O2.mp hm).2;rw[n]at q;simp at q
theorem tL{H:Hp}(e:(lu h H).get? b=ar o):h.get? b=ar o/\H b=none:=by
 have Z:h.get? b=ar o:=W.of_hideAll (J6 h H) e;refine⟨Z,?_⟩;cases q:H b with
 |none=>rfl
 |some x=>
  have hm:b∈J6 h H:=O2.mpr ⟨L9.mpr (LZ Z),by simp[q]⟩
  have z:(lu h H).get? b=none:=W.hideAll_none (J6 h H) hm;rw[z]at e;cases e
def my(g h:fg)(L:dt):List (dt×Obj):=(ed h.objs.size).filterMap fun a=>if a=L\/(g.get? a).isSome=bc then none else (h.get? a).map fun o=>(a,o)
theorem vp{g h:fg}(X:a≠L)(Y:g.get? a=none)(Z:h.get? a=ar o):(a,o)∈my g h L:=
 Ni.mpr ⟨a,L9.mpr (LZ Z),by simp[X,Y,Z]⟩
theorem pS(Z:p∈my g h L):p.1≠L/\g.get? p.1=none/\h.get? p.1=ar p.2:=by
 obtain⟨b,_,e⟩:=Ni.mp Z;split at e
 ·cases e
 ·rename_i hn
  cases q:h.get? b with
  |none=>rw[q]at e;simp at e
  |some u=>
   rw[q]at e;simp only[z4,Option.some.injEq]at e;subst e;refine⟨fun z=>hn (.inl z),?_,q⟩;show g.get? b=none;cases r:g.get? b with
   |none=>rfl
   |some v=>exact(hn (.inr (by simp[r]))).elim
def rest(g h:fg)(L d:dt):List (dt×Obj):=(my g h L).filter fun p=>decide (p.1≠d)
theorem pT:News g L h (my g h L):=fun p Z=>let ⟨a,b,c⟩:=pS Z;⟨c,a,b⟩
end L2
namespace L2
open PySem PySem.Spec PyProof.Rows
structure Mod(K:dV)(mg:Str->Option aC)(base:fg):Prop where
 kin:K.In base
 glob:base.Ns f' mg
 blt:∃mb,base.Ns v_ mb/\∀x:Str,x≠"__name__"->mb x=lx x
 nolimit:base.NoLimit
structure Cx where
 prog:ee
 w:eM
 K:dV
 mg:Str->Option aC
 base:fg
 A:gd
 N:List Str
 s₀:b_
 H₀:Hp
 env:Env
 outer:List Env
 stack:List Env
 ex:List dt
 fn:Str->Bool
 calm:Bool
 pn:List (dt×Obj)
 xe:aC->b_->Prop
def ke(l:List Env):List Addr:=l.filterMap (·.frame)
abbrev Cx.fs(X:Cx):List Addr:=ke X.outer
def zY(sc:Scope)(x:Str):Prop:=sc.names.lookup x=ar .local\/sc.names.lookup x=ar .cell\/sc.names.lookup x=ar .free
def Loc(sc:Scope)(x:Str):Prop:=sc.names.lookup x=ar .local\/sc.names.lookup x=ar .cell
def Look(env:Env)(h:fg)(m:Str->Option aC)(x:Str)(u:aC):Prop:=
 (env.kindOf x=ar .local/\m x=ar u)\/((env.kindOf x=ar .cell\/env.kindOf x=ar .free)/\∃c,env.cells.lookup x=ar c/\h.IsCell c (ar u))
structure Cx.Ok(X:Cx):Prop where
 mod:Mod X.K X.mg X.base
 kind:X.env.scope.kind= .function
 glob:X.env.globals=f'
 blt:X.env.builtins=v_
 above:X.s₀.heap.objs.size<=X.env.locals
 inj:∀x y c,X.env.cells.lookup x=ar c->X.env.cells.lookup y=ar c->x=y
 has:∀x,(X.env.kindOf x=ar .cell\/X.env.kindOf x=ar .free)->∃c,X.env.cells.lookup x=ar c
 cab:∀x c,X.fn x=bc->X.env.cells.lookup x=ar c->X.s₀.heap.objs.size<=c
 hd:X.calm=bc->X.A.handled=none
 frames:X.A.frames=ar X.stack
 stk:X.stack=X.outer\/(X.stack=X.env::X.outer/\X.env.frame=ar X.env.locals)
 exf:∀b∈X.ex,b≠X.env.locals/\∀x c,X.env.cells.lookup x=ar c->c≠b
 bs:∀b o,X.base.get? b=ar o->X.s₀.heap.get? b=ar o/\X.H₀ b=none
 bsz:X.base.objs.size<=X.s₀.heap.objs.size
 noex:∀b o,X.base.get? b=ar o->b∉X.ex
 exfs:∀b∈X.ex,b∉X.fs
 funs:X.s₀.heap.FunFrames X.base X.outer
 frf:∀b∈X.fs,X.H₀ b=none
structure Inv(X:Cx)(pins:List (dt×Obj))(σ:List (Option V))(H:Hp)(s:b_):Prop where
 ok:X.Ok
 os:s.os=X.s₀.os
 bare:y4 s.gens
 base:Un X.fs X.ex X.H₀ H X.s₀.heap s.heap
 loc:∃m,s.heap.Ns X.env.locals m/\∀(i:Nat) (x:Str) (v:V),X.N[i]? =ar x->σ[i]? =ar (ar v)->zY X.env.scope x->∃u,RelV v u/\Look X.env s.heap m x u
 cell:∀x c,X.env.cells.lookup x=ar c->∃v,s.heap.IsCell c v
 free:H X.env.locals=none
 freeC:∀x c,X.env.cells.lookup x=ar c->H c=none
 pin:∀p∈X.pn++pins,s.heap.get? p.1=ar p.2/\H p.1=none/\p.1≠X.env.locals/\p.1∉X.fs/\∀v,p.2.data≠ .cell v
 hok:gR X.prog X.w H s.heap
 len:σ.length=X.N.length
section
variable {X:Cx}{pins:List (dt×Obj)}{σ:List (Option V)}{H H':Hp}{s:b_}{h':fg}
theorem Cx.Ok.nofr(Z:X.Ok)(e:X.base.get? b=ar o):b∉X.fs:=fun Y=>by
 have:=(Z.funs.mem Y).1;rw[e]at this;cases this
theorem Inv.bs(I:Inv X pins σ H s):∀b o,X.base.get? b=ar o->s.heap.get? b=ar o/\H b=none:=fun b o e=>
 ⟨I.base.keep b o (I.ok.bs b o e).1 (I.ok.bs b o e).2 (I.ok.nofr e) (I.ok.noex b o e),I.base.free b o (I.ok.bs b o e).1 (I.ok.bs b o e).2 (I.ok.noex b o e)⟩
theorem Inv.bk(I:Inv X pins σ H s):∀b o,X.base.get? b=ar o->s.heap.get? b=ar o:=fun b o e=>(I.bs b o e).1
theorem Inv.mod(I:Inv X pins σ H s):Mod X.K X.mg X.base:=I.ok.mod
theorem Inv.kIn(I:Inv X pins σ H s):X.K.In s.heap:=I.ok.mod.kin.keeps I.bk
theorem Inv.fr(I:Inv X pins σ H s):∃m,Fr X.base X.env.locals s.heap m:=
 let ⟨m,hn,_⟩:=I.loc
 ⟨m,hn,I.bk,Ma I.ok.bsz I.ok.above⟩
theorem Inv.lt(I:Inv X pins σ H s):X.env.locals<s.heap.objs.size:=let ⟨_,hn,_⟩:=I.loc;hn.lt
theorem Inv.sz(I:Inv X pins σ H s):X.s₀.heap.objs.size<=s.heap.objs.size:=Ma I.ok.above (Nu I.lt)
theorem Inv.nofs(I:Inv X pins σ H s)(h:s.heap.objs.size<=a):a∉X.fs:=fun Z=>by
 obtain⟨_,o,Y,_⟩:=I.ok.funs.mem Z;exact absurd (Mc (LZ Y) (Ma I.sz h)) (Nm _)
theorem Inv.cne(I:Inv X pins σ H s):∀x c,X.env.cells.lookup x=ar c->c≠X.env.locals:=fun x c e z=>by
 obtain⟨v,o,W,hd⟩:=I.cell x c e;obtain⟨m,⟨U,es,ep,Z,Y,_⟩,_⟩:=I.loc;rw[z,Z]at W;cases W;rw[Y]at hd;cases hd
theorem Inv.funs(I:Inv X pins σ H s):s.heap.FunFrames X.base X.outer:=by
 have all:∀(l:List Env),(∀b∈ke l,b∈X.fs)->X.s₀.heap.FunFrames X.base l->s.heap.FunFrames X.base l:=by
  intro l
  induction l with
  |nil=>intro _ _;trivial
  |cons env r ih=>
   intro hs W;obtain⟨U,⟨L,o,hf,S,T,hd⟩,R⟩:=W;have Y:L∈X.fs:=hs L (by unfold ke;rw[MG,hf];exact Md)
   obtain⟨Q,e⟩:=I.base.slot L o T (I.ok.frf L Y) Y fun z=>I.ok.exfs L z Y;exact⟨U,⟨L,_,hf,S,e,hd⟩,ih (fun b Z=>hs b (by unfold ke;rw[MG,hf];exact L5 _ Z)) R⟩
 exact all X.outer (fun _ Z=>Z) I.ok.funs
theorem Inv.stack(I:Inv X pins σ H s):s.heap.FunFrames X.base X.stack:=by
 rcases I.ok.stk with e|⟨e,hf⟩
 ·rw[e];exact I.funs
 ·rw[e];obtain⟨m,Z,_⟩:=I.loc;refine .cons (by rw[I.ok.kind];decide) hf Z ?_ I.funs
  exact MV (Ma I.ok.bsz I.ok.above)
theorem Inv.stkSub(I:Inv X pins σ H s):∀b∈ke X.stack,b∈X.env.locals::X.fs:=fun b Z=>by
 rcases I.ok.stk with e|⟨e,hf⟩
 ·rw[e]at Z;exact L5 _ Z
 ·rw[e]at Z;unfold ke at Z;rw[MG,hf]at Z;exact Z
theorem Inv.stkFree(I:Inv X pins σ H s):∀b∈ke X.stack,H b=none:=fun b Z=>by
 rcases Me.mp (I.stkSub b Z)with e|Z
 ·rw[e];exact I.free
 ·obtain⟨_,o,Y,_⟩:=I.ok.funs.mem Z;exact I.base.free b o Y (I.ok.frf b Z) fun z=>I.ok.exfs b z Z
theorem Inv.step{g':Array P9}{t':Nat}{d':Drawn}{ch:List dt}(I:Inv X pins σ H s)
  (W:∀b∈ch,(b∈X.ex\/X.s₀.heap.objs.size<=b)/\b≠X.env.locals/\(∀x c,X.env.cells.lookup x=ar c->c≠b)/\∀p∈X.pn++pins,p.1≠b)
  (keep:∀b o,b≠X.env.locals->b∉X.fs->b∉ch->s.heap.get? b=ar o->H b=none->h'.get? b=ar o)
  (S:∀b o,b≠X.env.locals->b∈X.fs->b∉ch->s.heap.get? b=ar o->H b=none->∃C,h'.get? b=ar {o with slots:=C}) (Y:∀b o,b∉ch->s.heap.get? b=ar o->H b=none->H' b=none)
  (Q:∀b o,b∉ch->s.heap.get? b=ar o->∃L,h'.get? b=ar L)
  (J:∀b xs,H b=ar (.tup xs)->H' b=ar (.tup xs)) (N:∀b o u,H b=ar (.frz o u)->H' b=ar (.frz o u)) (O:∀b G,H b=ar (.tbl G)->∃more,H' b=ar (.tbl (G++more)))
  (ns:∀m,s.heap.Ns X.env.locals m->h'.Ns X.env.locals m) (E:gR X.prog X.w H' h') (t:y4 g'):
  Inv X pins σ H' {s with heap:=h',gens:=g',drawn:=d',toks:=t'}:=by
 have K:∀b o,X.s₀.heap.get? b=ar o->b≠X.env.locals:=fun b o e=>L7 (Mc (LZ e) I.ok.above);have T:∀b o,X.s₀.heap.get? b=ar o->b∉X.ex->b∉ch:=fun b o e Z R=>by
  rcases (W b R).1 with z|z
  ·exact Z z
  ·exact absurd (Mc (LZ e) z) (Nm _)
 have cellK:∀x c,X.env.cells.lookup x=ar c->∀v,s.heap.IsCell c v->h'.IsCell c v:=fun x c e v ⟨o,P,hd⟩=>by
  have U:c∉ch:=fun z=>(W c z).2.2.1 x c e rfl;by_cases hc:c∈X.fs
  ·obtain⟨C,q⟩:=S c o (I.cne x c e) hc U P (I.freeC x c e);exact⟨_,q,hd⟩
  ·exact⟨o,keep c o (I.cne x c e) hc U P (I.freeC x c e),hd⟩
 refine⟨I.ok,I.os,t,⟨fun b o e n R Z=>?_,fun b o e n R Z=>?_,fun b o e n Z=>?_,fun b o e Z=>?_,fun b xs e=>J b xs (I.base.tups b xs e),fun b o xs e=>N b o xs (I.base.frzs b o xs e),fun b G e=>?_⟩,?_,fun x c e=>?_,?_,fun x c e=>?_,fun p A=>?_,E,I.len⟩
 ·exact keep b o (K b o e) R (T b o e Z) (I.base.keep b o e n R Z) (I.base.free b o e n Z)
 ·obtain⟨C,e1⟩:=I.base.slot b o e n R Z;obtain⟨F,e2⟩:=S b _ (K b o e) R (T b o e Z) e1 (I.base.free b o e n Z);exact⟨F,e2⟩
 ·obtain⟨L,e1⟩:=I.base.there b o e Z;exact Y b L (T b o e Z) e1 (I.base.free b o e n Z)
 ·obtain⟨L,e1⟩:=I.base.there b o e Z;exact Q b L (T b o e Z) e1
 ·obtain⟨g,e1⟩:=I.base.tbls b G e;obtain⟨j,e2⟩:=O b _ e1;exact⟨g++j,by rw[e2,Array.append_assoc]⟩
 ·obtain⟨m,h,y⟩:=I.loc;refine⟨m,ns m h,fun i x v e1 e2 e3=>?_⟩;obtain⟨u,r,l⟩:=y i x v e1 e2 e3;refine⟨u,r,?_⟩;rcases l with l|⟨k,c,e,z⟩
  ·exact .inl l
  ·exact .inr ⟨k,c,e,cellK x c e _ z⟩
 ·obtain⟨v,z⟩:=I.cell x c e;exact⟨v,cellK x c e v z⟩
 ·obtain⟨m,⟨o,_,_,P,_⟩,_⟩:=I.loc;exact Y _ o (fun z=>(W _ z).2.1 rfl) P I.free
 ·obtain⟨v,o,P,hd⟩:=I.cell x c e;exact Y c o (fun z=>(W c z).2.2.1 x c e rfl) P (I.freeC x c e)
 ·obtain⟨e,n,ne,B,d⟩:=I.pin p A;have U:p.1∉ch:=fun z=>(W p.1 z).2.2.2 p A rfl;exact⟨keep p.1 p.2 ne B U e n,Y p.1 p.2 U e n,ne,B,d⟩
theorem Inv.un{t':Nat}(I:Inv X pins σ H s)(u:Un X.fs [] H H' s.heap h')(U:gR X.prog X.w H' h'):Inv X pins σ H' {s with heap:=h',toks:=t'}:=by
 obtain⟨m,⟨o,es,ep,T,r⟩,_⟩:=id I.loc;obtain⟨O,R⟩:=u.any T I.free (by simp)
 exact I.step (g':=s.gens) (d':=s.drawn) (ch:=[]) (fun _ z=>nomatch z) (fun b o _ Y _ e n=>u.keep b o e n Y (by simp)) (fun b o _ Y _ e n=>u.slot b o e n Y (by simp)) (fun b o _ e n=>u.free b o e n (by simp)) (fun b o _ e=>u.there b o e (by simp)) u.tups u.frzs u.tbls (fun P hm=>by
  obtain⟨Q,es',W,Z,S⟩:=hm;rw[T]at Z;cases Z;exact⟨_,es',W,R,S⟩) U I.bare
theorem Inv.call{g':Array P9}{t':Nat}{d':Drawn}{ch:List dt}(I:Inv X pins σ H s)(u:Un (ke X.stack) ch H H' s.heap h')(T:gR X.prog X.w H' h')(Q:y4 g')
  (Y:∀b∈ch,(b∈X.ex\/X.s₀.heap.objs.size<=b)/\b≠X.env.locals/\(∀x c,X.env.cells.lookup x=ar c->c≠b)/\∀p∈X.pn++pins,p.1≠b):
  Inv X pins σ H' {s with heap:=h',gens:=g',drawn:=d',toks:=t'}:=by
 obtain⟨m,⟨o,es,ep,R,r⟩,_⟩:=id I.loc;obtain⟨K,S⟩:=u.any R I.free fun z=>(Y _ z).2.1 rfl;exact I.step (ch:=ch) Y (fun b o S O Z e n=>u.keep b o e n (fun z=>(Me.mp (I.stkSub b z)).elim S O) Z) (fun b o _ _ Z e n=>u.any e n Z) (fun b o Z e n=>u.free b o e n Z) (fun b o Z e=>u.there b o e Z) u.tups u.frzs u.tbls (fun L hm=>by
  obtain⟨N,es',U,W,P⟩:=hm;rw[R]at W;cases W;exact⟨_,es',U,S,P⟩) T Q
theorem Inv.turned{t':Nat}{it:dt}(I:Inv X pins σ H s)(k:∀b o,b≠it->s.heap.get? b=ar o->h'.get? b=ar o)(Q:H it=none)(W:it≠X.env.locals)
  (T:it∈X.ex\/X.s₀.heap.objs.size<=it) (U:∀x c,X.env.cells.lookup x=ar c->c≠it) (P:∀p∈X.pn++pins,p.1≠it):Inv X pins σ H {s with heap:=h',toks:=t'}:=by
 have Y:∀b u,H b=ar u->b≠it:=fun b u e z=>by rw[z,Q]at e;cases e
 refine I.step (g':=s.gens) (d':=s.drawn) (ch:=[it]) (fun b R=>?_) (fun b o _ _ Z e _=>k b o (fun z=>Z (by simp[z])) e) (fun b o _ _ Z e _=>⟨o.slots,k b o (fun z=>Z (by simp[z])) e⟩) (fun _ _ _ _ n=>n)
  (fun b o Z e=>⟨o,k b o (fun z=>Z (by simp[z])) e⟩) (fun _ _ e=>e) (fun _ _ _ e=>e) (fun b O e=>⟨#[],by rw[e];simp⟩) (fun m hm=>?_) (fun b u e=>?_) I.bare
 ·have e:b=it:=by simpa using R
  subst e;exact⟨T,W,U,P⟩
 ·obtain⟨o,es,ep,S,r⟩:=hm;exact⟨o,es,ep,k _ o (kr W) S,r⟩
 ·refine(I.hok b u e).stay (fun c v Z q=>k c v ?_ q) (fun _ q=>q) fun _ _ q=>q;rcases Z with z|z
  ·rw[z];exact Y b u e
  ·exact Y c _ z
theorem Inv.tok(I:Inv X pins σ H s)(t:Nat):Inv X pins σ H {s with toks:=t}:=I.un (h':=s.heap) (t':=t) Un.refl I.hok
theorem Inv.kept(I:Inv X pins σ H s)(k:∀b u,s.heap.get? b=ar u->h'.get? b=ar u):Inv X pins σ H {s with heap:=h',toks:=t'}:=I.un (Un.kept k) (I.hok.kept k)
theorem Inv.laid(I:Inv X pins σ H s)(k:∀b u,s.heap.get? b=ar u->h'.get? b=ar u)(Y:s.heap.objs.size<=a)(Z:bo X.prog X.w (upd H a o) h' a o):
  Inv X pins σ (upd H a o) {s with heap:=h',toks:=t'}:=I.un (Un.laid k Y (I.hok.fresh Y)) (I.hok.laid k Y Z)
theorem Inv.write(I:Inv X pins σ H s)(W:J5 (H x))(U:e=x\/H e=ar (.own x))(k:∀b u,b≠e->s.heap.get? b=ar u->h'.get? b=ar u)(Z:∃u,h'.get? e=ar u)
  (Y:bo X.prog X.w (upd H x o) h' x o):Inv X pins σ (upd H x o) {s with heap:=h',toks:=t'}:=I.un (Un.write W U k Z) (I.hok.write W U k Z Y)
theorem Inv.pins_of(I:Inv X pins σ H s)(h:∀p∈pins',s.heap.get? p.1=ar p.2/\H p.1=none/\p.1≠X.env.locals/\p.1∉X.fs/\∀v,p.2.data≠ .cell v):Inv X pins' σ H s:=
 ⟨I.ok,I.os,I.bare,I.base,I.loc,I.cell,I.free,I.freeC,fun p Z=>(M6.mp Z).elim (fun z=>I.pin p (N8 _ z)) (h p),I.hok,I.len⟩
theorem pU{N:List Str}(Z:N.Nodup){i j:Nat}{x:Str}(a:N[i]? =ar x)(b:N[j]? =ar x):i=j:=by
 obtain⟨W,e1⟩:=LX.mp a;obtain⟨Y,e2⟩:=LX.mp b;exact(PN Z).mp (e1.trans e2.symm)
theorem sj{M:Ry}{A:gd}{E:aC->b_->Prop}{i:Nat}{x:Str}{v:V}{u:aC}{Q:Unit->b_->Prop}(I:Inv X pins σ H s)(hN:X.N.Nodup)(hi:X.N[i]? =ar x)(Y:Loc X.env.scope x)(r:RelV v u)
  (h:∀s',Inv X pins (σ.set i (ar v)) H s'->(∃a,r7 a s.heap s'.heap/\(a=X.env.locals\/X.env.cells.lookup x=ar a))->Q () s') (hf:X.fn x=bc\/X.env.scope.names.lookup x=ar .local:=by first|exact .inl rfl|exact .inr rfl|assumption):eb M A (storeName X.env x u) Q E s:=by
 obtain⟨m,hn,hl⟩:=id I.loc;have L:(X.env.scope.kind== .class||(X.env.scope.kind== .module && X.env.locals !=X.env.globals))=false:=by rw[I.ok.kind];rfl
 have U:i<σ.length:=by rw[I.len];exact(LX.mp hi).1
 have R:=I.cne;have tracked:∀{a:dt} {h':fg},(∃o,s.heap.get? a=ar o/\H a=none)->r7 a s.heap h'->gR X.prog X.w H h':=fun{a h'} ha hs b ob e=>by
  obtain⟨_,_,W⟩:=ha;refine(I.hok b ob e).stay (fun c G Z q=>(hs.2 c ?_).trans q) (fun _ q=>q) fun _ _ q=>q;rintro rfl;rcases Z with rfl|Z
  ·rw[W]at e;cases e
  ·rw[W]at Z;cases Z
 rcases Y with hk|hk
 ·refine wpAny_storeName_local hk hn (fun h' B hs=>?_) L;obtain⟨oL,_,_,C,_⟩:=id hn;refine h _ ⟨I.ok,I.os,I.bare,⟨fun b o e n S Y=>?_,fun b o e n S Y=>?_,I.base.free,fun b o e Y=>?_,I.base.tups,I.base.frzs,I.base.tbls⟩,⟨_,B,fun j y t e1 e2 e3=>?_⟩,fun y c e=>?_,I.free,I.freeC,fun p hp=>?_,tracked ⟨oL,C,I.free⟩ hs,by simpa using I.len⟩ ⟨_,hs,.inl rfl⟩
  ·exact(hs.2 b (L7 (Mc (LZ e) I.ok.above))).trans (I.base.keep b o e n S Y)
  ·obtain⟨sl,e1⟩:=I.base.slot b o e n S Y;exact⟨sl,(hs.2 b (L7 (Mc (LZ e) I.ok.above))).trans e1⟩
  ·obtain⟨g,e1⟩:=I.base.there b o e Y;exact⟨g,(hs.2 b (L7 (Mc (LZ e) I.ok.above))).trans e1⟩
  ·by_cases hj:j=i
   ·subst hj;rw[hi]at e1;cases e1;rw[Mo U]at e2;cases e2;exact⟨u,r,.inl ⟨hk,by simp⟩⟩
   ·rw[MW (kr hj)]at e2;obtain⟨l,f,q⟩:=hl j y t e1 e2 e3;refine⟨l,f,?_⟩;rcases q with⟨k,e⟩|⟨k,c,e,z⟩
    ·refine .inl ⟨k,?_⟩;have:y≠x:=fun e=>hj (pU hN e1 (e ▸ hi));simp[this,e]
    ·exact .inr ⟨k,c,e,z.sameBut hs (R y c e)⟩
  ·obtain⟨G,z⟩:=I.cell y c e;exact⟨G,z.sameBut hs (R y c e)⟩
  ·obtain⟨e,n,ne,F,d⟩:=I.pin p hp;exact⟨(hs.2 p.1 ne).trans e,n,ne,F,d⟩
 ·have T:X.fn x=true:=by
   rcases hf with z|z
   ·exact z
   ·rw[z]at hk;cases hk
  obtain⟨c,Z⟩:=I.ok.has x (.inl hk);obtain⟨G,z⟩:=I.cell x c Z;refine wpAny_storeName_cell I.ok.kind hk Z z (fun h' O hs=>?_);obtain⟨oc,K,P⟩:=id z;refine h {s with heap:=h'} ⟨I.ok,I.os,I.bare,⟨fun b o e n S Y=>?_,fun b o e n S Y=>?_,I.base.free,fun b o e Y=>?_,I.base.tups,I.base.frzs,I.base.tbls⟩,⟨m,hn.sameBut hs (kr (R x c Z)),fun j y t e1 e2 e3=>?_⟩,fun y J e=>?_,I.free,I.freeC,fun p hp=>?_,tracked ⟨oc,K,I.freeC x c Z⟩ hs,by simpa using I.len⟩ ⟨c,hs,.inr Z⟩
  ·exact(hs.2 b (L7 (Mc (LZ e) (I.ok.cab x c T Z)))).trans (I.base.keep b o e n S Y)
  ·obtain⟨sl,e1⟩:=I.base.slot b o e n S Y;exact⟨sl,(hs.2 b (L7 (Mc (LZ e) (I.ok.cab x c T Z)))).trans e1⟩
  ·obtain⟨g,e1⟩:=I.base.there b o e Y;exact⟨g,(hs.2 b (L7 (Mc (LZ e) (I.ok.cab x c T Z)))).trans e1⟩
  ·by_cases hj:j=i
   ·subst hj;rw[hi]at e1;cases e1;rw[Mo U]at e2;cases e2;exact⟨u,r,.inr ⟨.inl hk,c,Z,O⟩⟩
   ·rw[MW (kr hj)]at e2;obtain⟨l,f,q⟩:=hl j y t e1 e2 e3;refine⟨l,f,?_⟩;rcases q with q|⟨k,J,e,z'⟩
    ·exact .inl q
    ·refine .inr ⟨k,J,e,z'.sameBut hs ?_⟩;rintro rfl;exact hj (pU hN e1 (I.ok.inj _ _ _ e Z ▸ hi))
  ·by_cases hcc:J=c
   ·subst hcc;exact⟨_,O⟩
   ·obtain⟨w2,z2⟩:=I.cell y J e;exact⟨w2,z2.sameBut hs hcc⟩
  ·obtain⟨e,n,ne,F,d⟩:=I.pin p hp;refine⟨(hs.2 p.1 ?_).trans e,n,ne,F,d⟩;intro q;rw[q,K]at e;have q':oc=p.2:=Mn e;exact d G (by rw[<-q'];exact P)
theorem kf{Q:Unit->b_->Prop}(I:Inv X pins σ H s)(Z:X.N.Nodup)(hi:X.N[i]? =ar x)(Y:Loc X.env.scope x)(r:RelV v u)
  (h:∀s',Inv X pins (σ.set i (ar v)) H s'->Q () s') (U:X.fn x=bc\/X.env.scope.names.lookup x=ar .local:=by first|exact .inl rfl|exact .inr rfl|assumption):eb M A (storeName X.env x u) Q E s:=
 sj I Z hi Y r (fun s' W _=>h s' W) U
theorem Inv.call'{s':b_}(I:Inv X pins σ H s)(W:s'.os=s.os)(u:Un (ke X.stack) ch H H' s.heap s'.heap)(Y:gR X.prog X.w H' s'.heap)(U:y4 s'.gens)
  (Z:∀b∈ch,(b∈X.ex\/X.s₀.heap.objs.size<=b)/\b≠X.env.locals/\(∀x c,X.env.cells.lookup x=ar c->c≠b)/\∀p∈X.pn++pins,p.1≠b):Inv X pins σ H' s':=by
 obtain⟨h',g',d',t',T⟩:=s';have e:T=s.os:=W;subst e;exact I.call (g':=g') (t':=t') (d':=d') u Y U Z
end
abbrev XK:=aC->Option dt->Hp->Prop
abbrev St:=List (Option V)
abbrev VK:=V->Hp->Prop
abbrev TE:=St->Hp->VK->Prop
abbrev TT:=St->Hp->(Bool->Hp->Prop)->Prop
abbrev TA:=St->Hp->(List V->Hp->Prop)->Prop
structure Ends where
 nx:St->Hp->Prop
 rt:VK
 bk:St->Hp->Prop:=fun _ _=>False
 ct:St->Hp->Prop:=fun _ _=>False
abbrev TS:=Ends->St->Hp->Prop
def EP(X:Cx)(pins:List (dt×Obj))(σ:St)(Q:VK)(u:aC)(s':b_):Prop:=∃v H',Inv X pins σ H' s'/\RelV v u/\Q v H'
def TP(X:Cx)(pins:List (dt×Obj))(σ:St)(Q:Bool->Hp->Prop)(b:Bool)(s':b_):Prop:=∃H',Inv X pins σ H' s'/\Q b H'
def AP(X:Cx)(pins:List (dt×Obj))(σ:St)(Q:List V->Hp->Prop)(us:List aC)(s':b_):Prop:=∃vs H',Inv X pins σ H' s'/\bh vs us/\Q vs H'
def SP(X:Cx)(pins:List (dt×Obj))(D:Ends)(f:Flow)(s':b_):Prop:=
 match f with
 | .next=>∃ σ' H',Inv X pins σ' H' s'/\D.nx σ' H'
 | .brk=>∃ σ' H',Inv X pins σ' H' s'/\D.bk σ' H'
 | .cont=>∃ σ' H',Inv X pins σ' H' s'/\D.ct σ' H'
 | .ret u=>∃v σ' H',Inv X pins σ' H' s'/\RelV v u/\D.rt v H'
def PE(X:Cx)(e:Expr)(t:TE):Prop:=
 ∀(pins:List (dt×Obj)) (s:b_) (σ:St) (H:Hp) (Q:VK),Inv X pins σ H s->t σ H Q->eb (e_ X.prog X.w) X.A (gg e X.env) (EP X pins σ Q) X.xe s
def PT(X:Cx)(e:Expr)(t:TT):Prop:=
 ∀(pins:List (dt×Obj)) (s:b_) (σ:St) (H:Hp) (Q:Bool->Hp->Prop),Inv X pins σ H s->t σ H Q->eb (e_ X.prog X.w) X.A (isTrue e X.env (gg e X.env)) (TP X pins σ Q) X.xe s
def PW(X:Cx)(e:Expr)(t:TT):Prop:=
 ∀(whole:Sem aC) (pins:List (dt×Obj)) (s:b_) (σ:St) (H:Hp) (Q:Bool->Hp->Prop),Inv X pins σ H s->t σ H Q->eb (e_ X.prog X.w) X.A (isTrue e X.env whole) (TP X pins σ Q) X.xe s
theorem PW.pt(h:PW X e t):PT X e t:=h _
def PA(X:Cx)(es:List Expr)(t:TA):Prop:=
 ∀(pos:Pos) (pins:List (dt×Obj)) (s:b_) (σ:St) (H:Hp) (Q:List V->Hp->Prop),Inv X pins σ H s->t σ H Q->eb (e_ X.prog X.w) X.A (spliced (pa pos (d_ es X.env))) (AP X pins σ Q) X.xe s
def PS(X:Cx)(st:p4)(t:TS):Prop:=
 ∀(pins:List (dt×Obj)) (s:b_) (σ:St) (H:Hp) (D:Ends),Inv X pins σ H s->t D σ H->eb (e_ X.prog X.w) X.A (exec st X.env) (SP X pins D) X.xe s
def rJ(X:Cx)(st:List p4)(t:TS):Prop:=
 ∀(pins:List (dt×Obj)) (s:b_) (σ:St) (H:Hp) (D:Ends),Inv X pins σ H s->t D σ H->eb (e_ X.prog X.w) X.A (execs st X.env) (SP X pins D) X.xe s
theorem eR{α:Type}{t:Sem α}{Q Z:α->b_->Prop}{M:Ry}{A:gd}{E:aC->b_->Prop}{s:b_}(h:eb M A t Q E s)(Y:∀a s,Q a s->Z a s):eb M A t Z E s:=MJ h Y fun _ _ x=>x
end L2
namespace L2
open PySem PySem.Spec PyProof.Rows
section
variable {X:Cx}
def IG(i:Nat):TE:=fun σ H Q=>∃v,σ[i]? =ar (ar v)/\Q v H
def tC(v:V):TE:=fun _ H Q=>Q v H
theorem tN(U:X.N[i]? =ar x)(T:zY X.env.scope x)(Z:(x==("__debug__":Str))=false:=by decide)(Y:(x==("__classdict__":Str))=false:=by decide):PE X (.Name x pos) (IG i):=by
 intro pins s σ H Q I h;obtain⟨v,e,h⟩:=h;obtain⟨m,S,W⟩:=I.loc;obtain⟨u,r,l⟩:=W i x v U e T;have fin:EP X pins σ Q u s:=⟨v,H,I,r,h⟩;rcases l with⟨hk,hm⟩|⟨hk,c,hc,hcell⟩
 ·exact Rg (wpAny_loadName_local I.ok.kind hk S hm fin) Z
 ·rcases hk with hk|hk
  ·exact Rg (wpAny_loadName_cell I.ok.kind hk hc hcell fin) Z
  ·exact Rg (wpAny_loadName_free I.ok.kind hk hc hcell fin Y) Z
theorem w5{i j pos}:PE X (.Constant (.int i) j pos) (tC (.int i)):=fun _ _ _ H _ I h=>wpAny_Constant_int ⟨.int i,H,I.tok _,⟨_,rfl⟩,h⟩
theorem IH{b j pos}:PE X (.Constant (.bool b) j pos) (tC (.bl b)):=fun _ _ _ H _ I h=>Constant_bool ⟨.bl b,H,I,rfl,h⟩
theorem Gi{j pos}:PE X (.Constant .none j pos) (tC .non):=fun _ _ _ H _ I h=>Constant_none ⟨.non,H,I,rfl,h⟩
theorem Gj{x j pos}:PE X (.Constant (.str x) j pos) (tC (.str x)):=fun _ _ _ H _ I h=>Calls.Constant_str ⟨.str x,H,I.tok _,⟨_,rfl⟩,h⟩
def Gl(X:Cx)(x:Str):Prop:=X.env.kindOf x=ar .globalImplicit
theorem kR{Q:aC->b_->Prop}(I:Inv X pins σ H s)(Y:Gl X x)(W:X.mg x=ar u)(h:Q u s)
  (Z:(x==("__debug__":Str))=false:=by decide):eb (e_ X.prog X.w) X.A (gg (.Name x pos) X.env) Q E s:=
 O8 I.ok.kind Y (Calls.loadGlobal_global (by rw[I.ok.glob];exact I.mod.glob.keeps I.bk) W h) Z
theorem lU{Q:aC->b_->Prop}(I:Inv X pins σ H s)(S:Gl X x)(R:X.mg x=none)(U:lx x=ar u)(h:Q u s)
  (Y:x≠"__name__":=by decide) (T:(x==("__debug__":Str))=false:=by decide):eb (e_ X.prog X.w) X.A (gg (.Name x pos) X.env) Q E s:=by
 obtain⟨P,W,Z⟩:=I.mod.blt;exact O8 I.ok.kind S (Calls.loadGlobal_builtin (by rw[I.ok.glob];exact I.mod.glob.keeps I.bk) R (by rw[I.ok.blt];exact W.keeps I.bk) ((Z x Y).trans U) h) T
theorem yy(Y:Gl X x)(W:X.mg x=ar u)(r:RelV v u)(Z:(x==("__debug__":Str))=false:=by decide):PE X (.Name x pos) (tC v):=
 fun _ _ _ H _ I h=>kR I Y W ⟨v,H,I,r,h⟩ Z
theorem pG(U:Gl X x)(T:X.mg x=none)(Y:lx x=ar u)(r:RelV v u)(Z:x≠"__name__":=by decide)(W:(x==("__debug__":Str))=false:=by decide):PE X (.Name x pos) (tC v):=
 fun _ _ _ H _ I h=>lU I U T Y ⟨v,H,I,r,h⟩ Z W
variable {a b:Expr}{ta tb:TE}{pos:Pos}
theorem vt(b:Expr)(h:op≠ .In)(Z:op≠ .NotIn):n0 op b=false:=by
 have e1:(op==CmpOp.In)=false:=by cases op<;>first|rfl|exact absurd rfl h
 have e2:(op==CmpOp.NotIn)=false:=by cases op<;>first|rfl|exact absurd rfl Z
 cases b<;>simp[n0,e1,e2]
def tB(t:TE):TT:=fun σ H Q=>t σ H fun x H1=>∃c,x= .bl c/\Q c H1
theorem Gk(h:PE X e t)(Z:∀whole,isTrue e X.env whole=(do let v<-whole;RG e.pos;A' [v] (truthy v)):=by intro _;rfl):PT X e (tB t):=by
 intro pins s σ H Q I hw;refine isTrue_plain (eR (h pins s σ H _ I hw) fun v s1 ⟨x,H1,I1,r1,q1⟩=>?_) (Z _);obtain⟨d,rfl,q⟩:=q1;cases r1;exact Nd ⟨H1,I1,q⟩
variable {tA tB':TT}{rest:List Expr}
def Ku(t u:TT):TT:=fun σ H Q=>t σ H fun c H1=>if c=bc then u σ H1 Q else Q c_ H1
def Lx(t u:TT):TT:=fun σ H Q=>t σ H fun c H1=>if c=bc then Q bc H1 else u σ H1 Q
def Kv(t:TT):TT:=fun σ H Q=>t σ H fun c H1=>Q (!c) H1
theorem DY(Z:PT X a tA):PW X (.BoolOp .And [a] pos) tA:=by
 intro Y pins s σ H Q I h;refine isTrue_and (eR (Z pins s σ H Q I h) fun c s1 e=>?_);cases c with
 |true=>exact isTrue_and_nil e
 |false=>exact e
theorem Gm(Z:PT X a tA):PW X (.BoolOp .Or [a] pos) tA:=by
 intro Y pins s σ H Q I h;refine isTrue_or (eR (Z pins s σ H Q I h) fun c s1 e=>?_);cases c with
 |false=>exact isTrue_or_nil e
 |true=>exact e
theorem Gn(W:PT X a tA)(Z:PW X (.BoolOp .And (b::rest) pos) tB'):PW X (.BoolOp .And (a::b::rest) pos) (Ku tA tB'):=by
 intro Y pins s σ H Q I h;refine isTrue_and (eR (W pins s σ H _ I h) fun c s1 ⟨H1,I1,q1⟩=>?_);cases c with
 |true=>exact Z Y pins s1 σ H1 Q I1 q1
 |false=>exact⟨H1,I1,q1⟩
theorem II(W:PT X a tA)(Z:PW X (.BoolOp .Or (b::rest) pos) tB'):PW X (.BoolOp .Or (a::b::rest) pos) (Lx tA tB'):=by
 intro Y pins s σ H Q I h;refine isTrue_or (eR (W pins s σ H _ I h) fun c s1 ⟨H1,I1,q1⟩=>?_);cases c with
 |true=>exact⟨H1,I1,q1⟩
 |false=>exact Z Y pins s1 σ H1 Q I1 q1
theorem Gp(Y:PT X a tA):PT X (.UnaryOp .Not a pos) (Kv tA):=by
 intro pins s σ H Q I h;exact isTrue_not (Y pins s σ H (fun c Z=>Q (!c) Z) I h)
def IJ(ta tb:TE):TE:=fun σ H Q=>ta σ H fun x H1=>∃c,x= .bl c/\if c=bc then tb σ H1 Q else Q (.bl c_) H1
def IK(ta:TE):TE:=fun σ H Q=>ta σ H fun x H1=>∃c,x= .bl c/\Q (.bl (!c)) H1
theorem Gq{op}(h:PE X a t):PE X (.BoolOp op [a] pos) t:=fun pins s σ H Q I hw=>BoolOp_one (h pins s σ H Q I hw)
theorem Gr(W:PE X a ta)(Y:PE X (.BoolOp .And (b::rest) pos) tb):PE X (.BoolOp .And (a::b::rest) pos) (IJ ta tb):=by
 intro pins s σ H Q I h;refine BoolOp_and (eR (W pins s σ H _ I h) fun v s1 ⟨x,H1,I1,r1,Z⟩=>?_);obtain⟨c,rfl,Z⟩:=Z;cases r1;refine Nd ?_;cases c with
 |true=>exact Y pins s1 σ H1 Q I1 Z
 |false=>exact⟨.bl c_,H1,I1,rfl,Z⟩
theorem Gs(Y:PE X a ta):PE X (.UnaryOp .Not a pos) (IK ta):=by
 intro pins s σ H Q I h;refine UnaryOp_ (eR (Y pins s σ H _ I h) fun v s1 ⟨x,H1,I1,r1,Z⟩=>?_);obtain⟨c,rfl,Z⟩:=Z;cases r1;exact not_of (Nd ⟨.bl (!c),H1,I1,rfl,Z⟩)
end
end L2
namespace L2
open PySem PySem.Spec PyProof.Rows
def kg(K:dV)(H:Hp)(a:dt)(xs:List V):Prop:=
 Rd H a (.lst xs)\/
  ∃(o:Obj) (its:Array aC) (n:Nat),K.lookup a=ar o/\o.cls= .type "list"/\o.dict=none/\o.data= .seq its n/\its.size<=sizeLine/\bh xs its.toList
def lD(K:dV)(H:Hp)(a:dt)(xs:List V):Prop:=
 Rd H a (.tup xs)\/
  ∃(o:Obj) (its:Array aC) (n:Nat),K.lookup a=ar o/\o.cls= .type "tuple"/\o.data= .seq its n/\its.size<=sizeLine/\bh xs its.toList
def Kw:aC->Option V
 | .none=>ar .non
 | .bool b=>ar (.bl b)
 | .int i _=>ar (.int i)
 | .str x _=>ar (.str x)
 | .bytes b _=>ar (.byt b)
 | .float b _=>ar (.flt b)
 | .ref a=>ar (.ref a)
 | .type n=>ar (.ty n)
 |_=>none
theorem RelV.abs(r:RelV x u):Kw u=ar x:=by
 cases x with
 |non=>cases r;rfl
 |bl _=>cases r;rfl
 |int _=>obtain⟨t,rfl⟩:=r;rfl
 |str _=>obtain⟨t,rfl⟩:=r;rfl
 |byt _=>obtain⟨t,rfl⟩:=r;rfl
 |flt _=>obtain⟨t,rfl⟩:=r;rfl
 |ref _=>cases r;rfl
 |ty _=>cases r;rfl
theorem RelV.inj(r:RelV x u)(q:RelV y u):x=y:=Mn (r.abs.symm.trans q.abs)
theorem bh.inj:∀{xs ys:List V} {us:List aC},bh xs us->bh ys us->xs=ys
 |_,_,_,.nil,.nil=>rfl
 |_,_,_,.cons r t,.cons r' t'=>by rw[r.inj r',bh.inj t t']
section
variable {X:Cx}{pins:List (dt×Obj)}{σ:St}{H:Hp}{s:b_}{a:dt}{xs ys:List V}
theorem kg.of{K:dV}(h:H a=ar (.lst xs)):kg K H a xs:=.inl (.inl h)
theorem lD.of{K:dV}(h:H a=ar (.tup xs)):lD K H a xs:=.inl (.inl h)
theorem Inv.list(I:Inv X pins σ H s)(h:kg X.K H a xs):∃its:List aC,bh xs its/\PlainL s.heap a its.toArray/\xs.length<=sizeLine:=by
 rcases h with h|⟨o,its,n,hk,hc,hd,hs,hz,r⟩
 ·obtain⟨z,its,n,r,e⟩:=h.ok I.hok;exact⟨its,r,⟨_,n,e,rfl,rfl,rfl⟩,z⟩
 ·refine⟨its.toList,r,⟨o,n,I.kIn a o hk,hc,hd,by simpa using hs⟩,?_⟩
  have e:=r.length;simp only[u3]at e;omega
theorem Inv.tuple(I:Inv X pins σ H s)(h:lD X.K H a xs):∃its:List aC,bh xs its/\Rw s.heap a its.toArray/\xs.length<=sizeLine:=by
 rcases h with h|⟨o,its,n,hk,hc,hs,hz,r⟩
 ·obtain⟨z,its,r,p⟩:=h.ok I.hok;exact⟨its,r,p,z.1⟩
 ·refine⟨its.toList,r,⟨o,I.kIn a o hk,hc,n,by simpa using hs⟩,?_⟩
  have e:=r.length;simp only[u3]at e;omega
theorem Inv.list_inj(I:Inv X pins σ H s)(h:kg X.K H a xs)(h':kg X.K H a ys):xs=ys:=by
 obtain⟨its,r,⟨o,n,e,_,_,d⟩,_⟩:=I.list h;obtain⟨its',Y,⟨W,n',Z,_,_,d'⟩,_⟩:=I.list h';rw[e]at Z;cases Z;rw[d]at d';injection d' with d1 _;have:its=its':=by simpa using N4 Array.toList d1
 subst this;exact r.inj Y
theorem Inv.tuple_inj(I:Inv X pins σ H s)(h:lD X.K H a xs)(h':lD X.K H a ys):xs=ys:=by
 obtain⟨its,r,⟨o,e,_,n,d⟩,_⟩:=I.tuple h;obtain⟨its',Y,⟨W,Z,_,n',d'⟩,_⟩:=I.tuple h';rw[e]at Z;cases Z;rw[d]at d';injection d' with d1 _;have:its=its':=by simpa using N4 Array.toList d1
 subst this;exact r.inj Y
end
abbrev Cx.wish(X:Cx)(E:aC->b_->Prop):Cx:={X with xe:=E}
abbrev Cx.nox(X:Cx):Cx:=X.wish fun _ _=>False
theorem Cx.Ok.wish{X:Cx}(Z:X.Ok)(E:aC->b_->Prop):(X.wish E).Ok:=
 ⟨Z.mod,Z.kind,Z.glob,Z.blt,Z.above,Z.inj,Z.has,Z.cab,Z.hd,Z.frames,Z.stk,Z.exf,Z.bs,Z.bsz,Z.noex,Z.exfs,Z.funs,Z.frf⟩
theorem Cx.Ok.unwish{X:Cx}(Z:(X.wish E).Ok):X.Ok:=
 ⟨Z.mod,Z.kind,Z.glob,Z.blt,Z.above,Z.inj,Z.has,Z.cab,Z.hd,Z.frames,Z.stk,Z.exf,Z.bs,Z.bsz,Z.noex,Z.exfs,Z.funs,Z.frf⟩
section
variable {X:Cx}{pins:List (dt×Obj)}{σ:St}{H:Hp}{s:b_}{E:aC->b_->Prop}
theorem Inv.wish(I:Inv X pins σ H s)(E:aC->b_->Prop):Inv (X.wish E) pins σ H s:=⟨I.ok.wish E,I.os,I.bare,I.base,I.loc,I.cell,I.free,I.freeC,I.pin,I.hok,I.len⟩
theorem Inv.unwish(I:Inv (X.wish E) pins σ H s):Inv X pins σ H s:=⟨I.ok.unwish,I.os,I.bare,I.base,I.loc,I.cell,I.free,I.freeC,I.pin,I.hok,I.len⟩
theorem SP.unwish(h:SP (X.wish E) pins D f s'):SP X pins D f s':=by
 cases f with
 |next=>obtain⟨Z,Y,I,q⟩:=h;exact⟨Z,Y,I.unwish,q⟩
 |brk=>obtain⟨Z,Y,I,q⟩:=h;exact⟨Z,Y,I.unwish,q⟩
 |cont=>obtain⟨Z,Y,I,q⟩:=h;exact⟨Z,Y,I.unwish,q⟩
 |ret u=>obtain⟨v,Z,Y,I,r,q⟩:=h;exact⟨v,Z,Y,I.unwish,r,q⟩
theorem rJ.nox{Z:List p4}{t:TS}(h:rJ X.nox Z t):rJ X Z t:=fun pins s σ H D I hw=>
 MJ (h pins s σ H D (I.wish _) hw) (fun _ _ q=>q.unwish) fun _ _ z=>g_ z
end
section
variable {X:Cx}{st:p4}{rest:List p4}{t u:TS}{e:Expr}{te:TE}{pos:Pos}
def IL:TS:=fun D σ H=>D.nx σ H
def Kx(t u:TS):TS:=fun D σ H=>t {D with nx:=u D} σ H
theorem DZ:rJ X [] IL:=fun _ _ σ H _ I h=>NX ⟨σ,H,I,h⟩
theorem vv(W:PS X st t)(Y:rJ X rest u):rJ X (st::rest) (Kx t u):=by
 intro pins s σ H D I h;refine PP (eR (W pins s σ H {D with nx:=u D} I h) fun f s1 q=>?_);cases f with
 |next=>
  obtain⟨Z,U,T,q⟩:=q;exact Y pins s1 Z U D T q
 |ret v=>exact q
 |brk=>exact q
 |cont=>exact q
theorem tO(Z:PS X st t):rJ X [st] t:=by
 intro pins s σ H D I h;refine PP (eR (Z pins s σ H D I h) fun f s1 q=>?_);cases f with
 |next=>exact NX q
 |ret v=>exact q
 |brk=>exact q
 |cont=>exact q
theorem Inv.quiet(I:Inv X pins σ H s):interactive X.env=false:=by simp[interactive,I.ok.kind]
def IM(te:TE):TS:=fun D σ H=>te σ H fun _ H1=>D.nx σ H1
theorem D0(Z:PE X e te)(hs:ly e none pos.line X.env=a_ false:=by rfl):PS X (.Expr e pos) (IM te):=by
 intro pins s σ H D I h;exact wpAny_Expr_any (eR (Z pins s σ H _ I h) fun v s1 ⟨x,H1,I1,r1,q1⟩=>⟨σ,H1,I1,q1⟩) I.quiet hs
def Ky(te:TE):TS:=fun D σ H=>te σ H D.rt
theorem Gu(Z:PE X e te):PS X (.Return (ar e) pos) (Ky te):=by
 intro pins s σ H D I h;exact wpAny_Return_some (eR (Z pins s σ H _ I h) fun v s1 ⟨x,H1,I1,r1,q1⟩=>⟨x,σ,H1,I1,r1,q1⟩)
def Kz(c:TT)(t u:TS):TS:=fun D σ H=>c σ H fun b H1=>if b=bc then t D σ H1 else u D σ H1
theorem IP(Y:PT X c tc)(W:rJ X a t)(Z:rJ X b u):PS X (.If c a b pos) (Kz tc t u):=by
 intro pins s σ H D I h;refine wpAny_If (eR (Y pins s σ H _ I h) fun d s1 ⟨H1,I1,q1⟩=>?_);cases d with
 |true=>exact W pins s1 σ H1 D I1 q1
 |false=>exact Z pins s1 σ H1 D I1 q1
end
abbrev TG:=V->St->Hp->(St->Hp->Prop)->Prop
abbrev FJ:=List V->St->Hp->(St->Hp->Prop)->Prop
def PG(X:Cx)(target:Expr)(t:TG):Prop:=
 ∀(pins:List (dt×Obj)) (s:b_) (σ:St) (H:Hp) (v:V) (u:aC) (Q:St->Hp->Prop),Inv X pins σ H s->RelV v u->t v σ H Q->
  eb (e_ X.prog X.w) X.A (Qb target X.env u) (fun _ s'=>∃ σ' H',Inv X pins σ' H' s'/\Q σ' H') X.xe s
def Bi(X:Cx)(ts:List Expr)(t:FJ):Prop:=
 ∀(pins:List (dt×Obj)) (s:b_) (σ:St) (H:Hp) (vs:List V) (us:List aC) (Q:St->Hp->Prop),Inv X pins σ H s->bh vs us->t vs σ H Q->
  eb (e_ X.prog X.w) X.A (Qz ((l_ ts X.env).map (·.2)) us) (fun _ s'=>∃ σ' H',Inv X pins σ' H' s'/\Q σ' H') X.xe s
abbrev Gv:=V->V->V->Hp->(Hp->Prop)->Prop
def IQ(X:Cx)(t:Gv):Prop:=
 ∀(pins:List (dt×Obj)) (s:b_) (σ:St) (H:Hp) (o i v:V) (ov iv u:aC) (Q:Hp->Prop),Inv X pins σ H s->RelV o ov->RelV i iv->RelV v u->t o i v H Q->
  eb (e_ X.prog X.w) X.A (R3 ov iv u) (fun _ s'=>∃H',Inv X pins σ H' s'/\Q H') X.xe s
section
variable {X:Cx}{pos:Pos}
def Bj(i:Nat):TG:=fun v σ H Q=>Q (σ.set i (ar v)) H
theorem D1(Z:X.N.Nodup)(hi:X.N[i]? =ar x)(Y:Loc X.env.scope x)(U:X.fn x=bc\/X.env.scope.names.lookup x=ar .local:=by first|exact .inl rfl|exact .inr rfl|assumption):PG X (.Name x pos) (Bj i):=by
 intro pins s σ H v u Q I r h;exact wpAny_assign_Name (kf I Z hi Y r (fun s' W=>⟨_,H,W,h⟩) U)
def KB:FJ:=fun vs σ H Q=>vs=[]/\Q σ H
def IR(t:TG)(u:FJ):FJ:=fun vs σ H Q=>∃v r,vs=v::r/\t v σ H fun σ' H'=>u r σ' H' Q
theorem D3:Bi X [] KB:=by
 intro pins s σ H vs us Q I r h;obtain⟨e,h⟩:=h;subst e;cases r;exact assignInOrder_nil ⟨σ,H,I,h⟩
theorem Bk(Y:PG X e t)(Z:Bi X es u)
  (hs:(l_ (e::es) X.env).map (·.2)=Qb e X.env::(l_ es X.env).map (·.2):=by rfl):Bi X (e::es) (IR t u):=by
 intro pins s σ H vs us Q I r h;obtain⟨v,W,e1,h⟩:=h;subst e1;cases r with
 |cons r rr=>
  rw[hs];refine Pb (eR (Y pins s σ H _ _ _ I r h) fun _ s1 ⟨σ1,H1,I1,q1⟩=>?_);exact Z pins s1 σ1 H1 _ _ Q I1 rr q1
def KC(K:dV)(n:Nat)(t:FJ):TG:=fun v σ H Q=>∃a xs,v= .ref a/\lD K H a xs/\xs.length=n/\t xs σ H Q
theorem Gw(U:X.calm=bc)(h:Bi X es t)
  (O:(l_ es X.env).length=n:=by rfl) (Z:(l_ es X.env).findIdx? (·.1)=none:=by rfl):PG X (.Tuple es k pos) (KC X.K n t):=by
 intro pins s σ H v u Q I r hw;obtain⟨a,xs,e1,R,T,hw⟩:=hw;subst e1;cases r;obtain⟨its,Y,P,N⟩:=I.tuple R;refine assign_Tuple_tuple (I.ok.hd U) P (by simp[O, <-T,Y.length]) Z fun h' S=>?_
 have W:Inv X pins σ H {s with heap:=h'}:=I.kept (t':=s.toks) fun b o e=>S b o (L7 (LZ e)) e;exact h pins _ σ H xs _ Q W (by simpa using Y) hw
def KD(to ti:TE)(t:Gv):TG:=fun v σ H Q=>to σ H fun o H1=>ti σ H1 fun i H2=>t o i v H2 fun H3=>Q σ H3
theorem Gx(Y:PE X o to)(hi:PE X i ti)(hs:IQ X t)
  (Z:∀v,Qb (.Subscript o i pos) X.env v=(do
   let ov<-A' [v] (gg o X.env);let iv<-A' [v,ov] (gg i X.env)
   RG pos
   A' [v,ov,iv] (R3 ov iv v)
   release [v,ov,iv] []):=by intro _;rfl):PG X (.Subscript o i pos) (KD to ti t):=by
 intro pins s σ H v u Q I r h;rw[Z];refine LP (ME (eR (Y pins s σ H _ I h) fun ov s1 ⟨x,H1,I1,r1,q1⟩=>?_));refine LP (ME (eR (hi pins s1 σ H1 _ I1 q1) fun iv s2 ⟨y,H2,I2,r2,q2⟩=>?_));refine LP (M7 (LP (ME (eR (hs pins s2 σ H2 x y v ov iv u _ I2 r1 r2 r q2) fun _ s3 ⟨H3,I3,q3⟩=>?_))));exact wpAny_release ⟨σ,H3,I3,q3⟩
def Gy(te:TE)(g:TG):TS:=fun D σ H=>te σ H fun x H1=>g x σ H1 D.nx
theorem Gz(W:PE X e te)(U:PG X tg g)(hs:Ic [tg] e pos.line X.env=a_ false:=by rfl)(Y:I_ [tg] e X.env=a_ none:=by rfl)
  (Z:(l_ [tg] X.env).map (·.2)=[Qb tg X.env]:=by rfl):PS X (.Assign [tg] e pos) (Gy te g):=by
 intro pins s σ H D I h;refine wpAny_Assign_stores (eR (W pins s σ H _ I h) fun v s1 ⟨x,H1,I1,r1,q1⟩=>?_) hs Y;rw[Z];exact eR (U pins s1 σ H1 x v _ I1 r1 q1) fun _ s2 q=>q
theorem Bl(Z:X.N.Nodup)(hi:X.N[i]? =ar x)(Y:Loc X.env.scope x)(U:PE X e te)(hs:ly e (ar (.Name x pos')) pos.line X.env=a_ false:=by rfl)(T:X.fn x=bc\/X.env.scope.names.lookup x=ar .local:=by first|exact .inl rfl|exact .inr rfl|assumption):
  PS X (.Assign [.Name x pos'] e pos) (Gy te (Bj i)):=by
 intro pins s σ H D I h;refine wpAny_Assign_Name (eR (U pins s σ H _ I h) fun v s1 ⟨y,H1,I1,r1,q1⟩=>?_) hs;exact kf I1 Z hi Y r1 (fun s2 W=>⟨_,H1,W,q1⟩) T
def KF(i j:Nat)(ta:TA):TS:=fun D σ H=>ta σ H fun vs H1=>∃v w,vs=[v,w]/\D.nx ((σ.set i (ar v)).set j (ar w)) H1
theorem GA{kt k2 pt2}(E:X.calm=bc)(P:X.N.Nodup)(hi:X.N[i]? =ar x)(G:X.N[j]? =ar y)(U:i≠j)
  (O:X.env.scope.names.lookup x=ar .local) (R:X.env.scope.names.lookup y=ar .local) (L:PA X [a,b] ta)
  (J:I_ [.Tuple [.Name x px,.Name y py] kt pt] (.Tuple [a,b] k2 pt2) X.env=a_ (ar [x,y]))
  (hs:Ic [.Tuple [.Name x px,.Name y py] kt pt] (.Tuple [a,b] k2 pt2) pos.line X.env=a_ false:=by rfl):
  PS X (.Assign [.Tuple [.Name x px,.Name y py] kt pt] (.Tuple [a,b] k2 pt2) pos) (KF i j ta):=by
 intro pins s σ H D I h;rw[exec_Assign_arm];refine LP (M7 ?_);rw[hs];refine LP (LS ?_);rw[if_neg (by decide)]
 refine LP (Tuple_ (eR (L _ pins s σ H _ I h) fun us s1 ⟨vs,H1,I1,r1,T⟩=>?_));obtain⟨v,w,e1,T⟩:=T;subst e1;obtain⟨Z,Y,rfl,F,S⟩:∃Z Y,us=[Z,Y]/\RelV v Z/\RelV w Y:=by
  cases r1 with
  | cons p q=>
   cases q with
   |cons p' q'=>
    cases q';exact⟨_,_,rfl,p,p'⟩
 refine Mw ?_ (by show 2<=sizeLine;decide)
 have K:Inv X pins σ H1 {s1 with heap:=s1.heap.push {cls:=.type "tuple",data:=.seq [Z,Y].toArray}}:=I1.kept (t':=s1.toks) fun b o e=>LQ _ e;rw[J];refine LP (LS ?_);show eb (e_ X.prog X.w) X.A (do rule "assign.swapped-stores";let items<-unpackItems (.ref s1.heap.objs.size) 2 none;Qz [fun v=>QJ X.env y v,fun v=>QJ X.env x v] items.reverse;a_ Flow.next) _ _ _
 refine LP (O0 (LP (unpackItems_tuple (items:= #[Z,Y]) (I.ok.hd E) (Qq s1.heap _) fun h' W=>?_)));have C:=K.kept (h':=h') (t':=s1.toks) fun b o e=>W b o (L7 (LZ e)) e;show eb _ _ (Qz [fun v=>QJ X.env y v,fun v=>QJ X.env x v] [Y,Z]>>=fun _=>a_ Flow.next) _ _ _;refine LP (Pb (wpAny_bindName (kf C P G (.inl R) S (fun s2 B=>?_) (.inr R))));refine Pb (wpAny_bindName (kf B P hi (.inl O) F (fun s3 Q=>assignInOrder_nil (LS ?_)) (.inr O)));rw[List.set_comm _ _ (kr U)]at Q;exact⟨_,H1,Q,T⟩
end
section
variable {X:Cx}{pos:Pos}
def GC(c:TT)(tb:TS):TS:=fun D σ H=>∃W:Nat->St->Hp->Prop,(∃m,W m σ H)/\∀m σ H,W m σ H->
 c σ H fun b H1=>if b=bc then ∃N:St->Hp->Prop,(∀ σ' H',N σ' H'->∃m',m'<m/\W m' σ' H')/\tb {D with nx:=N,ct:=N,bk:=D.nx} σ H1 else D.nx σ H1
theorem Bm{c:Expr}{body:List p4}{L:TT}{tb:TS}(K:Qs (e_ X.prog X.w) X.A X.env X.xe)(J:PT X c L)(G:rJ X body tb):PS X (.While c body [] pos) (GC L tb):=by
 intro pins s σ H D I h;obtain⟨W,⟨m0,w0⟩,turn⟩:=h;refine wpAny_While (codeAny_whileLoop (fun n s'=>∃ σ' H',Inv X pins σ' H' s'/\W n σ' H') ?_ m0 ⟨σ,H,I,w0⟩);rintro n s1 ⟨σ1,H1,I1,w1⟩;refine NA K (eR (J pins s1 σ1 H1 _ I1 (turn n σ1 H1 w1)) fun b s2 ⟨H2,I2,T⟩=>?_);cases b with
 | true=>
  obtain⟨N,O,T⟩:=T;rw[if_pos rfl];refine NA K (eR (G pins s2 σ1 H2 _ I2 T) fun f s3 U=>?_);cases f with
  |next=>
   obtain⟨Z,Y,S,Q⟩:=U;obtain⟨P,hm,R⟩:=O Z Y Q;exact⟨P,hm,Z,Y,S,R⟩
  |cont=>
   obtain⟨Z,Y,S,Q⟩:=U;obtain⟨P,hm,R⟩:=O Z Y Q;exact⟨P,hm,Z,Y,S,R⟩
  |brk=>exact U
  |ret v=>exact U
 |false=>
  rw[if_neg Nj];exact NX ⟨σ1,H2,I2,T⟩
end
structure It where
 go:Nat->Hp->Prop
 yld:Nat->Hp->V->Hp->Prop
 stop:Nat->Hp->Prop
def nH(X:Cx)(pins:List (dt×Obj))(H:Hp)(b:dt):Prop:=
 H b=none/\b≠X.env.locals/\b∉X.fs/\(b∈X.ex\/X.s₀.heap.objs.size<=b)/\(∀x c,X.env.cells.lookup x=ar c->c≠b)/\∀p∈X.pn++pins,p.1≠b
theorem Inv.fpOk{Y:Hp}(I:Inv X pins σ H s)(Z:s.heap.objs.size<=b)(W:Y b=none):nH X pins Y b:=by
 refine⟨W,Nn (Mc I.lt Z),I.nofs Z,.inr (Ma I.sz Z),fun x c e z=>?_,fun p U z=>?_⟩
 ·obtain⟨v,q⟩:=I.cell x c e;exact absurd (Mc q.lt (by rw[z];exact Z)) (Nm _)
 ·exact absurd (Mc (LZ (I.pin p U).1) (by rw[z];exact Z)) (Nm _)
structure Turn(P:ee)(w:eM)(K:dV)(tg:Expr)(J:It)(fp:List dt)(it:dt)(tn:Nat->fg->Prop):Prop where
 mem:it∈fp
 obj:∀i h,tn i h->∀b∈fp,∃o,h.get? b=ar o/\∀v,o.data≠ .cell v
 keep:∀i h h',tn i h->(∀b∈fp,∀o,h.get? b=ar o->h'.get? b=ar o)->tn i h'
 item:∀(X:Cx),X.prog=P->X.w=w->X.K=K->X.calm=bc->∀(i:Nat) (pins:List (dt×Obj)) (s:b_) (σ:St) (H:Hp) (E:aC->b_->Prop),Inv X pins σ H s->(∀b∈fp,nH X pins H b)->tn i s.heap->J.go i H->
  eb (e_ P w) X.A (z_ (.ref it)) (fun r s1=>∃u,r=ar u/\
   eb (e_ P w) X.A (O_ tg (.ref it) u) (fun _ s2=>∃x H',Inv X pins σ H' s2/\RelV x u/\J.yld i H x H'/\tn (i+1) s2.heap/\∀b∈fp,H' b=none) E s1) E s
 done:∀(X:Cx),X.prog=P->X.w=w->X.K=K->X.calm=bc->∀(i:Nat) (pins:List (dt×Obj)) (s:b_) (σ:St) (H:Hp) (E:aC->b_->Prop),Inv X pins σ H s->(∀b∈fp,nH X pins H b)->tn i s.heap->J.stop i H->
  eb (e_ P w) X.A (z_ (.ref it)) (fun r s1=>r=none/\Inv X pins σ H s1) E s
 self:∀(A:gd) (i:Nat) (s:b_) (Q:aC->b_->Prop) (E:aC->b_->Prop),tn i s.heap->Q (.ref it) s->eb (e_ P w) A (Rh (.ref it)) Q E s
abbrev TI:=St->Hp->(It->Hp->Prop)->Prop
def Lk(X:Cx)(pins:List (dt×Obj))(σ:St)(tg:Expr)(R:It->Hp->Prop)(itv:aC)(s2:b_):Prop:=
 ∃(it:dt) (fp:List dt) (tn:Nat->fg->Prop) (J:It) (H':Hp),itv= .ref it/\Inv X pins σ H' s2/\Turn X.prog X.w X.K tg J fp it tn/\tn 0 s2.heap/\(∀b∈fp,nH X pins H' b)/\R J H'
def PI(X:Cx)(tg iter:Expr)(wi:TI):Prop:=
 ∀(pins:List (dt×Obj)) (s:b_) (σ:St) (H:Hp) (R:It->Hp->Prop),Inv X pins σ H s->wi σ H R->
  eb (e_ X.prog X.w) X.A (gg iter X.env) (fun v s1=>eb (e_ X.prog X.w) X.A (Rh v) (Lk X pins σ tg R) X.xe s1) X.xe s
theorem Bo{s:b_}{Q:Unit->b_->Prop}(U:s.heap.get? it=ar o)(X:o.cls= .type n)(Y:o.data= .fields vs)
    (W:["enumerate","zip","dict_itemiterator","dict_reverseitemiterator","odict_iterator","itertools.zip_longest","itertools.pairwise"].contains n=c_) (Z:Q () s):eb M A (O_ tg (.ref it) u) Q E s:=by
  unfold O_;cases tg <;>first
    |exact LS Z
    |(cases u<;>first
        |exact LS Z
        | (refine LP (wpAny_load U ?_)
           rw[X,Y];show eb M A (if (["enumerate","zip","dict_itemiterator","dict_reverseitemiterator","odict_iterator","itertools.zip_longest","itertools.pairwise"].contains n && vs[0]? ==ar (m_ _))=bc then _ else _) Q E s;rw[if_neg (by intro h;rw[W,M0]at h;cases h)]
           exact LS Z))
def J7(K:dV)(a:dt):It:=
 ⟨fun i H=>∃xs x,kg K H a xs/\xs[i]? =ar x,fun i H x H'=>H'=H/\∀xs,kg K H a xs->xs[i]? =ar x,fun i H=>∃xs,kg K H a xs/\xs.length<=i⟩
def KG(K:dV)(a:dt):It:=
 ⟨fun i H=>∃xs x,lD K H a xs/\xs[i]? =ar x,fun i H x H'=>H'=H/\∀xs,lD K H a xs->xs[i]? =ar x,fun i H=>∃xs,lD K H a xs/\xs.length<=i⟩
def IS(lo:Int)(n:Nat):It:=⟨fun i _=>i<n,fun i H x H'=>H'=H/\x= .int (lo+i),fun i _=>n<=i⟩
theorem zZ{P:ee}{w:eM}{K:dV}{y:Expr}(a it:dt):Turn P w K y (J7 K a) [it] it (fun i h=>h.IsListIter it a i) where
 mem:=by simp
 obj:=fun i h st b Z=>by
  have e:b=it:=by simpa using Z
  subst e;obtain⟨o,e,c,d⟩:=st;exact⟨o,e,fun v z=>by rw[d]at z;cases z⟩
 keep:=fun i h h' st k=>st.at fun o e=>k it (by simp) o e
 item:=by
  intro X T hw Q J i pins s σ H E I hf st S;subst T hw Q;obtain⟨xs,x,U,L⟩:=S;obtain⟨its,R,p,t⟩:=I.list U;obtain⟨u,r,F⟩:=R.get L;obtain⟨f0,f1,f2,O,f4,N⟩:=hf it (by simp)
  refine wpAny_pyNext_list_item st p.isList (x:=u) (by simpa using r) fun h' Y C=>?_
  have B:Inv X pins σ H {s with heap:=h'}:=I.turned (t':=s.toks) (fun b o Z e=>(C.2 b Z).trans e) f0 f1 O f4 N;obtain⟨o,e,c,d⟩:=id Y;exact⟨u,rfl,Bo (s:={s with heap:=h'}) e c d (by decide) ⟨x,H,B,F,⟨rfl,fun ys G=>by rw[I.list_inj G U];exact L⟩,Y,fun b Z=>(hf b Z).1⟩⟩
 done:=by
  intro X T hw Q J i pins s σ H E I hf st S;subst T hw Q;obtain⟨xs,U,L⟩:=S;obtain⟨its,R,p,t⟩:=I.list U;obtain⟨f0,f1,f2,O,f4,N⟩:=hf it (by simp)
  have q:=R.length;exact wpAny_pyNext_list_end (I.ok.hd J) st p.isList (by simp;omega) fun h' A=>⟨rfl,I.turned (t':=s.toks) (fun b o Z e=>A b o Z e) f0 f1 O f4 N⟩
 self:=fun _ _ _ _ _ st h=>wpAny_pyIter_listiter st h
theorem xa{P:ee}{w:eM}{K:dV}{y:Expr}(a it:dt):Turn P w K y (KG K a) [it] it (fun i h=>h.IsTupleIter it a i) where
 mem:=by simp
 obj:=fun i h st b Z=>by
  have e:b=it:=by simpa using Z
  subst e;obtain⟨o,e,c,d⟩:=st;exact⟨o,e,fun v z=>by rw[d]at z;cases z⟩
 keep:=fun i h h' st k=>st.at fun o e=>k it (by simp) o e
 item:=by
  intro X T hw Q J i pins s σ H E I hf st S;subst T hw Q;obtain⟨xs,x,U,L⟩:=S;obtain⟨its,R,p,t⟩:=I.tuple U;obtain⟨u,r,F⟩:=R.get L;obtain⟨f0,f1,f2,O,f4,N⟩:=hf it (by simp)
  refine wpAny_pyNext_tuple_item st (show s.heap.IsTuple a its.toArray from p) (x:=u) (by simpa using r) fun h' Y C=>?_
  have B:Inv X pins σ H {s with heap:=h'}:=I.turned (t':=s.toks) (fun b o Z e=>(C.2 b Z).trans e) f0 f1 O f4 N;obtain⟨o,e,c,d⟩:=id Y;exact⟨u,rfl,Bo (s:={s with heap:=h'}) e c d (by decide) ⟨x,H,B,F,⟨rfl,fun ys G=>by rw[I.tuple_inj G U];exact L⟩,Y,fun b Z=>(hf b Z).1⟩⟩
 done:=by
  intro X T hw Q J i pins s σ H E I hf st S;subst T hw Q;obtain⟨xs,U,L⟩:=S;obtain⟨its,R,p,t⟩:=I.tuple U;obtain⟨f0,f1,f2,O,f4,N⟩:=hf it (by simp)
  have q:=R.length;exact wpAny_pyNext_tuple_end (I.ok.hd J) st (show s.heap.IsTuple a its.toArray from p) (by simp;omega) fun h' A=>⟨rfl,I.turned (t':=s.toks) (fun b o Z e=>A b o Z e) f0 f1 O f4 N⟩
 self:=fun _ _ _ _ _ st h=>wpAny_pyIter_tupleiter st h
theorem xb{P:ee}{w:eM}{K:dV}{C:Expr}(it:dt)(lo:Int)(n:Nat):Turn P w K C (IS lo n) [it] it (fun i h=>IsRangeIter h it (lo+(i:Nat)*1) ((n:Int) - (i:Nat)) 1) where
 mem:=by simp
 obj:=fun i h st b Z=>by
  have e:b=it:=by simpa using Z
  subst e;exact⟨_,st,fun v z=>by
   have L:Data.fields _=Data.cell v:=z;cases L⟩
 keep:=fun i h h' st k=>k it (by simp) _ st
 item:=by
  intro X U hw S Q i pins s σ H E I hf st T;subst U hw S;obtain⟨f0,f1,f2,R,f4,O⟩:=hf it (by simp)
  have W:=Walks.range (prog:=X.prog) (w:=X.w) (I.ok.hd Q) it lo 1 n;refine W.item i s _ _ T st fun v h' N F Y B=>?_;obtain⟨t,rfl⟩:=F;have J:Inv X pins σ H {s with heap:=h',toks:=N}:=I.turned (fun b o Z e=>B b o (by simpa using Z) e) f0 f1 R f4 O
  refine⟨_,rfl,Bo (s:={s with heap:=h',toks:=N}) (n:="range_iterator") Y rfl rfl (by decide) ⟨.int (lo+i),H,J,⟨t,?_⟩,⟨rfl,rfl⟩,Y,fun b Z=>(hf b Z).1⟩⟩
  rw[Int.mul_one]
 done:=by
  intro X U hw S Q i pins s σ H E I hf st T;subst U hw S;obtain⟨f0,f1,f2,R,f4,O⟩:=hf it (by simp)
  exact wpAny_pyNext_range_end (I.ok.hd Q) st (by have:n<=i:=T;omega) fun h' G=>⟨rfl,I.turned (t':=s.toks) (fun b o Z e=>G b o Z e) f0 f1 R f4 O⟩
 self:=fun _ _ _ _ _ st h=>wpAny_pyIter_rangeiter st h
end L2
namespace L2
open PySem PySem.Spec PyProof.Rows
section
variable {X:Cx}{tg:Expr}
def IT(K:dV)(tl:TE):TI:=fun σ H R=>tl σ H fun x H1=>∃a,x= .ref a/\(∃xs,kg K H1 a xs)/\R (J7 K a) H1
def KI(K:dV)(tl:TE):TI:=fun σ H R=>tl σ H fun x H1=>∃a,x= .ref a/\(∃xs,lD K H1 a xs)/\R (KG K a) H1
theorem mz{l:Expr}{Z:TE}(Y:PE X l Z):PI X tg l (IT X.K Z):=by
 intro pins s σ H R I h;refine eR (Y pins s σ H _ I h) fun v s1 ⟨x,H1,I1,r1,q1⟩=>?_;obtain⟨a,e,⟨xs,W⟩,q⟩:=q1;subst e;cases r1;obtain⟨its,T,p,S⟩:=I1.list W;refine Pn p.isList ?_;refine⟨s1.heap.objs.size,[s1.heap.objs.size],_,_,H1,rfl,I1.kept (t':=s1.toks) fun b o e=>LQ _ e,zZ a _,⟨_,L3 _ rfl,rfl,rfl⟩,fun b U=>?_,q⟩;have e:b=s1.heap.objs.size:=by simpa using U
 subst e;exact I1.fpOk (LU _) (I1.hok.fresh (LU _))
theorem GD{l:Expr}{Z:TE}(Y:PE X l Z):PI X tg l (KI X.K Z):=by
 intro pins s σ H R I h;refine eR (Y pins s σ H _ I h) fun v s1 ⟨x,H1,I1,r1,q1⟩=>?_;obtain⟨a,e,⟨xs,W⟩,q⟩:=q1;subst e;cases r1;obtain⟨its,T,p,S⟩:=I1.tuple W;refine Nk (show s1.heap.IsTuple a its.toArray from p) ?_;refine⟨s1.heap.objs.size,[s1.heap.objs.size],_,_,H1,rfl,I1.kept (t':=s1.toks) fun b o e=>LQ _ e,xa a _,⟨_,L3 _ rfl,rfl,rfl⟩,fun b U=>?_,q⟩;have e:b=s1.heap.objs.size:=by simpa using U
 subst e;exact I1.fpOk (LU _) (I1.hok.fresh (LU _))
theorem vw{Z:List (dt×Obj)}{U:St}{H:Hp}{s:b_}{R:It->Hp->Prop}{E:aC->b_->Prop}{lo hi:Int}{t u v:Tok}{W:Nat}(I:Inv X Z U H s)(S: -(2 ^ 62)<=lo)(T:lo<2 ^ 62)(O: -(2 ^ 62)<=hi)(Q:hi<2 ^ 62)
  (q:R (IS lo (hi - lo).toNat) H):eb (e_ X.prog X.w) X.A (Rh (.ref s.heap.objs.size)) (Lk X Z U tg R) E {s with heap:=s.heap.push {cls:=.type "range",data:=.fields #[.int lo t,.int hi u,.int 1 v]},toks:=W}:=by
 refine wpAny_pyIter_range (IsRange.new ..) (small_one S T O Q) ?_;have Y:Inv X Z U H {s with heap:=s.heap.push {cls:=.type "range",data:=.fields #[.int lo t,.int hi u,.int 1 v]},toks:=W}:=I.kept fun b o e=>LQ _ e;refine⟨(s.heap.push {cls:=.type "range",data:=.fields #[.int lo t,.int hi u,.int 1 v]}).objs.size,[(s.heap.push {cls:=.type "range",data:=.fields #[.int lo t,.int hi u,.int 1 v]}).objs.size],_,_,H,rfl,
  Y.kept (t':=W) fun b o e=>LQ _ e,xb _ lo (hi - lo).toNat,?_,fun b P=>?_,q⟩
 ·have e1:lo+((0:Nat):Int)*1=lo:=by simp
  have e2:(((hi - lo).toNat:Nat):Int) - ((0:Nat):Int)=Builtin.Range.rangeSize lo hi 1:=by rw[rangeSize_one];split<;>omega
  show IsRangeIter _ _ (lo+((0:Nat):Int)*1) ((((hi - lo).toNat:Nat):Int) - ((0:Nat):Int)) 1;rw[e1,e2];exact L3 _ rfl
 ·have e:b=(s.heap.push {cls:=.type "range",data:=.fields #[.int lo t,.int hi u,.int 1 v]}).objs.size:=by simpa using P
  subst e;exact Y.fpOk (LU _) (Y.hok.fresh (LU _))
def IU(ta:TA):TI:=fun σ H R=>ta σ H fun vs H1=>∃j:Int,vs=[.int j]/\ -(2 ^ 62)<=j/\j<2 ^ 62/\R (IS 0 j.toNat) H1
def IV(ta:TA):TI:=fun σ H R=>ta σ H fun vs H1=>∃i j:Int,vs=[.int i,.int j]/\(-(2 ^ 62)<=i/\i<2 ^ 62/\ -(2 ^ 62)<=j/\j<2 ^ 62)/\R (IS i (j - i).toNat) H1
theorem z5{a:Expr}{Y:TA}{p pos:Pos}(T:Gl X "range")(S:X.mg "range"=none)(W:PA X [a] Y)(hs:d_ [a] X.env=[(c_,gg a X.env)]:=by rfl):PI X tg (.Call (.Name "range" p) [a] [] pos) (IU Y):=by
 intro pins s σ H R I h;refine R_ (lU I T S boot_range (M8 (eR (W pos pins s σ H _ I h) fun us s1 ⟨vs,H1,I1,r1,Z⟩=>?_) hs rfl));obtain⟨j,e,Z,U,q⟩:=Z;subst e;cases r1 with
 |cons r rr=>
  cases rr;obtain⟨t,rfl⟩:=r;exact call_range_1 (vw I1 (by omega) (by omega) Z U (by simpa using q))
theorem z6(Q:Gl X "range")(P:X.mg "range"=none)(T:PA X [a,b] ta)(hs:d_ [a,b] X.env=[(c_,gg a X.env),(c_,gg b X.env)]:=by rfl)(Z:d_ [b] X.env=[(c_,gg b X.env)]:=by rfl):
  PI X tg (.Call (.Name "range" p) [a,b] [] pos) (IV ta):=by
 intro pins s σ H R I h;refine R_ (lU I Q P boot_range (M8 (eR (T pos pins s σ H _ I h) fun us s1 ⟨vs,H1,I1,r1,Y⟩=>?_) (by rw[hs,Z]) (by rw[Z];rfl)))
 obtain⟨i,j,e,⟨Y,S,W,U⟩,q⟩:=Y;subst e;cases r1 with
 | cons r rr=>
  cases rr with
  |cons r' rr=>
   cases rr;obtain⟨t,rfl⟩:=r;obtain⟨t',rfl⟩:=r';exact call_range_2 (vw I1 Y S W U q)
def KJ(wi:TI)(g:TG)(tb:TS):TS:=fun D σ H=>wi σ H fun J H1=>∃W:Nat->Nat->St->Hp->Prop,(∃m,W 0 m σ H1)/\∀i m σ H,W i m σ H->
 (J.stop i H/\D.nx σ H)\/(J.go i H/\∃N:St->Hp->Prop,(∀ σ' H',N σ' H'->∃m',m'<m/\W (i+1) m' σ' H')/\∀x H',J.yld i H x H'->g x σ H' fun σ2 H2=>tb {D with nx:=N,ct:=N,bk:=D.nx} σ2 H2)
def pV(fp:List dt)(h:fg):List (dt×Obj):=fp.filterMap fun b=>(h.get? b).map fun o=>(b,o)
theorem jG{h:fg}(Z:b∈fp)(e:h.get? b=ar o):(b,o)∈pV fp h:=Ni.mpr ⟨b,Z,by rw[e];rfl⟩
theorem z7(W:p∈pV fp h):p.1∈fp/\h.get? p.1=ar p.2:=by
 obtain⟨b,Z,e⟩:=Ni.mp W;cases q:h.get? b with
 |none=>rw[q]at e;cases e
 |some o=>
  rw[q]at e;have Y:(b,o)=p:=Mn e;subst Y;exact⟨Z,q⟩
theorem Inv.pinned(I:Inv X pins σ H s)(T:∀b∈fp,nH X pins H b)(W:∀b∈fp,∃o,s.heap.get? b=ar o/\∀v,o.data≠ .cell v):Inv X (pins++pV fp s.heap) σ H s:=
 I.pins_of fun p U=>(M6.mp U).elim (fun z=>I.pin p (Mt _ z)) fun z=>by
  obtain⟨Z,e⟩:=z7 z;obtain⟨f0,f1,f2,_⟩:=T p.1 Z;obtain⟨o,Y,d⟩:=W p.1 Z;rw[e]at Y;cases Y;exact⟨e,f0,f1,f2,d⟩
theorem Inv.unpinned(I:Inv X (pins++pl) σ H s):Inv X pins σ H s:=I.pins_of fun p Z=>I.pin p (Mt _ (N8 _ Z))
theorem GE{U:Expr}{body:List p4}{C:TI}{g:TG}{tb:TS}{pos:Pos}(K:Qs (e_ X.prog X.w) X.A X.env X.xe)(B:X.calm=bc)(hi:PI X tg U C)(p:PG X tg g)(S:rJ X body tb)
  (hs:∀x,oo U X.env x=a_ x:=by intro _;rfl):PS X (.For tg U body [] pos) (KJ C g tb):=by
 intro pins s σ H D I h;refine wpAny_For (eR (hi pins s σ H _ I h) fun v s1 l=>eR l fun c s2 y=>?_) hs;obtain⟨it,O,z,J,j,e,q,T,E,f2,W,⟨m0,w0⟩,turn⟩:=y;subst e;have Y:∀{H':Hp},(∀b∈O,H' b=none)->∀b∈O,nH X pins H' b:=fun a b S=>⟨a b S,(f2 b S).2⟩;refine codeAny_forLoop_any (fun n s'=>∃i σ' H',Inv X pins σ' H' s'/\z i s'.heap/\(∀b∈O,H' b=none)/\W i n σ' H') ?_ m0 ⟨0,σ,j,q,E,fun b S=>(f2 b S).1,w0⟩;rintro n s3 ⟨i,σ3,H3,I3,st3,fr3,w3⟩;rcases turn i n σ3 H3 w3 with⟨stop,qn⟩|⟨go,N,hN,step⟩
 ·refine NA K (eR (T.done X rfl rfl rfl B i pins s3 σ3 H3 X.xe I3 (Y fr3) st3 stop) fun r s4 ⟨hr,I4⟩=>?_);subst hr;exact NX ⟨σ3,H3,I4,qn⟩
 ·refine NA K (eR (T.item X rfl rfl rfl B i pins s3 σ3 H3 X.xe I3 (Y fr3) st3 go) fun r s4 ⟨u,hr,h4⟩=>?_);subst hr;refine NA K (eR h4 fun _ s5 ⟨x,H5,I5,r5,y5,st5,fr5⟩=>?_);have F:=I5.pinned (Y fr5) (T.obj _ _ st5);refine NA K (eR (p _ s5 σ3 H5 x u _ F r5 (step x H5 y5)) fun _ s6 ⟨σ6,H6,I6,q6⟩=>?_);refine NA K (eR (S _ s6 σ6 H6 _ I6 q6) fun f G P=>?_);have Ri:∀{Z:St} {Q:Hp},Inv X (pins++pV O s5.heap) Z Q G->N Z Q->∃m,m<n/\∃i σ' H',Inv X pins σ' H' G/\z i G.heap/\(∀b∈O,H' b=none)/\W i m σ' H':=fun{Z Q} R L=>by
   obtain⟨m',hm,k⟩:=hN Z Q L;refine⟨m',hm,i+1,Z,Q,R.unpinned,T.keep _ _ _ st5 fun b S o e=>(R.pin (b,o) (Mt _ (Mt _ (jG S e)))).1,fun b S=>?_,k⟩;obtain⟨o,e,d⟩:=T.obj _ _ st5 b S;exact(R.pin (b,o) (Mt _ (Mt _ (jG S e)))).2.1
  cases f with
  |next=>obtain⟨Z,Q,R,L⟩:=P;exact Ri R L
  |cont=>obtain⟨Z,Q,R,L⟩:=P;exact Ri R L
  |brk=>obtain⟨Z,Q,R,P⟩:=P;exact⟨Z,Q,R.unpinned,P⟩
  |ret v=>obtain⟨x7,Z,Q,R,t,P⟩:=P;exact⟨x7,Z,Q,R.unpinned,t,P⟩
end
end L2
namespace L2
open PySem PySem.Spec PyProof.Rows
abbrev R2:=V->V->Hp->VK->Prop
def jF(X:Cx)(f:aC->aC->Sem aC)(r:R2):Prop:=
 ∀(pins:List (dt×Obj)) (s:b_) (σ:St) (H:Hp) (x y:V) (v u:aC) (Q:VK),Inv X pins σ H s->RelV x v->RelV y u->r x y H Q->
  eb (e_ X.prog X.w) X.A (f v u) (EP X pins σ Q) X.xe s
def KL(X:Cx)(f:aC->Sem aC)(r:V->Hp->VK->Prop):Prop:=
 ∀(pins:List (dt×Obj)) (s:b_) (σ:St) (H:Hp) (x:V) (v:aC) (Q:VK),Inv X pins σ H s->RelV x v->r x H Q->
  eb (e_ X.prog X.w) X.A (f v) (EP X pins σ Q) X.xe s
def dX(X:Cx)(f:aC)(r:List V->Hp->VK->Prop):Prop:=
 ∀(pins:List (dt×Obj)) (s:b_) (σ:St) (H:Hp) (xs:List V) (us:List aC) (Q:VK),Inv X pins σ H s->bh xs us->r xs H Q->
  eb (e_ X.prog X.w) X.A (call f us) (EP X pins σ Q) X.xe s
def IW(r:R2)(ta tb:TE):TE:=fun σ H Q=>ta σ H fun x H1=>tb σ H1 fun y H2=>r x y H2 Q
def Ly(r:V->Hp->VK->Prop)(ta:TE):TE:=fun σ H Q=>ta σ H fun x H1=>r x H1 Q
def rI(C:Int->Int->Prop)(g:Int->Int->V):R2:=fun x y H Q=>∃i j,x= .int i/\y= .int j/\C i j/\Q (g i j) H
def DP(g:Int->Int->V):R2:=fun x y H Q=>∃i j,x= .int i/\y= .int j/\Q (g i j) H
def rU(g:Int->V):V->Hp->VK->Prop:=fun x H Q=>∃i,x= .int i/\Q (g i) H
section
variable {X:Cx}{a b c:Expr}{ta tb tc:TE}{pos:Pos}
theorem GF(S:PE X a ta)(T:PE X b tb){R:V->V->Hp->Prop}(I:Inv X pins σ H s)
  (h:ta σ H fun x U=>tb σ U fun y Z=>R x y Z) {f:aC->aC->Sem aC}
  (P:∀v u s2 x y Z,Inv X pins σ Z s2->RelV x v->RelV y u->R x y Z->eb (e_ X.prog X.w) X.A (f v u) Q X.xe s2):
  eb (e_ X.prog X.w) X.A (gg a X.env) (fun v W=>eb (e_ X.prog X.w) X.A (gg b X.env) (fun u Y=>eb (e_ X.prog X.w) X.A (f v u) Q X.xe Y) X.xe W) X.xe s:=by
 refine eR (S pins s σ H _ I h) fun v s1 ⟨x,U,I1,r1,q1⟩=>?_;refine eR (T pins s1 σ U _ I1 q1) fun u s2 ⟨y,Z,I2,r2,q2⟩=>?_;exact P v u s2 x y Z I2 r1 r2 q2
theorem IX(W:jF X (t6 op) r)(Y:PE X a ta)(S:PE X b tb):PE X (.BinOp a op b pos) (IW r ta tb):=by
 intro pins s σ H Q I h;exact wpAny_BinOp (GF Y S I h fun v u s2 x y T U R Z q=>W pins s2 σ T x y v u Q U R Z q)
theorem FK(Y:KL X (unaryOp op) r)(Z:PE X a ta):PE X (.UnaryOp op a pos) (Ly r ta):=by
 intro pins s σ H Q I h;exact UnaryOp_ (eR (Z pins s σ H _ I h) fun v s1 ⟨x,H1,I1,r1,q1⟩=>Y pins s1 σ H1 x v Q I1 r1 q1)
theorem J8{f:aC->aC->Sem aC}{C:Int->Int->Prop}{g:Int->Int->Int}
  (Z:∀(i j:Int) (t u:Tok) (s:b_) (Q:aC->b_->Prop) (E:aC->b_->Prop),C i j->Q (.int (g i j) s.toks) {s with toks:=s.toks+1}->eb (e_ X.prog X.w) X.A (f (.int i t) (.int j u)) Q E s):
  jF X f (rI C fun i j=>.int (g i j)):=by
 intro pins s σ H x y v u Q I U W h;obtain⟨i,j,rfl,rfl,Y,q⟩:=h;obtain⟨t,rfl⟩:=U;obtain⟨t',rfl⟩:=W;exact Z i j t t' s _ _ Y ⟨.int (g i j),H,I.tok _,⟨_,rfl⟩,q⟩
theorem IY{f:aC->aC->Sem aC}{g:Int->Int->Int}
  (Z:∀(i j:Int) (t u:Tok) (s:b_) (Q:aC->b_->Prop) (E:aC->b_->Prop),Q (.int (g i j) s.toks) {s with toks:=s.toks+1}->eb (e_ X.prog X.w) X.A (f (.int i t) (.int j u)) Q E s):
  jF X f (DP fun i j=>.int (g i j)):=by
 intro pins s σ H x y v u Q I W Y h;obtain⟨i,j,rfl,rfl,q⟩:=h;obtain⟨t,rfl⟩:=W;obtain⟨t',rfl⟩:=Y;exact Z i j t t' s _ _ ⟨.int (g i j),H,I.tok _,⟨_,rfl⟩,q⟩
theorem D4{f:aC->aC->Sem aC}{g:Int->Int->Bool}
  (Z:∀(i j:Int) (t u:Tok) (s:b_) (Q:aC->b_->Prop) (E:aC->b_->Prop),Q (.bool (g i j)) s->eb (e_ X.prog X.w) X.A (f (.int i t) (.int j u)) Q E s):
  jF X f (DP fun i j=>.bl (g i j)):=by
 intro pins s σ H x y v u Q I W Y h;obtain⟨i,j,rfl,rfl,q⟩:=h;obtain⟨t,rfl⟩:=W;obtain⟨t',rfl⟩:=Y;exact Z i j t t' s _ _ ⟨.bl (g i j),H,I,rfl,q⟩
def Bp(i j:Int):Prop:=0<j/\j<1073741824
def D5(i j:Int):Prop:=0<=j/\j<=1000000/\i.natAbs<2 ^ 64
def xc(i j:Int):Prop:=(-(2 ^ 64)<i/\i<2 ^ 64)\/(-(2 ^ 64)<j/\j<2 ^ 64)
theorem xc.ok{i j:Int}(h:xc i j):IntMulOk i j:=by
 rcases h with⟨h1,h2⟩|⟨h1,h2⟩
 ·exact .of_left (intBits_le_64 h1 h2)
 ·exact .of_right (intBits_le_64 h1 h2)
theorem GG:jF X (t6 .Add) (DP fun i j=>.int (i+j)):=IY fun _ _ _ _ _ _ _ q=>add_int q
theorem GH:jF X (t6 .Sub) (DP fun i j=>.int (i - j)):=IY fun _ _ _ _ _ _ _ q=>sub_int q
theorem GI:jF X (t6 .Mult) (rI xc fun i j=>.int (i*j)):=J8 fun _ _ _ _ _ _ _ Z q=>mul_int q Z.ok
theorem D6:jF X (t6 .FloorDiv) (rI Bp fun i j=>.int (i / j)):=J8 fun i j _ _ _ _ _ Z q=>by
 have W:(0:Int)<j:=Z.1;have Y:j<1073741824:=Z.2;exact floordiv_int (by omega) (by rw[Int.fdiv_eq_ediv_of_nonneg i (by omega)];exact q) (.inl (PyProof.noPylong_small (by omega)))
theorem GJ:jF X (t6 .Mod) (rI (fun _ j=>0<j) fun i j=>.int (i % j)):=J8 fun i j _ _ _ _ _ Z q=>by
 have Y:(0:Int)<j:=Z;exact mod_int' (by omega) (by rw[Int.fmod_eq_emod_of_nonneg i (by omega)];exact q)
theorem GK:jF X (t6 .Pow) (rI D5 fun i j=>.int (i ^ j.toNat)):=J8 fun _ _ _ _ _ _ _ Z q=>pow_int_small Z.1 Z.2.1 Z.2.2 q
theorem Lz{f:aC->Sem aC}{g:Int->Int}
  (Z:∀(i:Int) (t:Tok) (s:b_) (Q:aC->b_->Prop) (E:aC->b_->Prop),Q (.int (g i) s.toks) {s with toks:=s.toks+1}->eb (e_ X.prog X.w) X.A (f (.int i t)) Q E s):
  KL X f (rU fun i=>.int (g i)):=by
 intro pins s σ H x v Q I Y h;obtain⟨i,rfl,q⟩:=h;obtain⟨t,rfl⟩:=Y;exact Z i t s _ _ ⟨.int (g i),H,I.tok _,⟨_,rfl⟩,q⟩
theorem Bq:KL X (unaryOp .USub) (rU fun i=>.int (-i)):=Lz fun _ _ _ _ _ q=>neg_int q
end
section
variable {X:Cx}{a b c:Expr}{ta tb tc:TE}{pos:Pos}
theorem GL{Q:VK}(I:Inv X pins σ H s)(q:Q (.bl k) H)(e:k=k'):EP X pins σ Q (.bool k') s:=by
 subst e;exact⟨.bl k,H,I,rfl,q⟩
theorem Br:jF X (j_ .Lt) (DP fun i j=>.bl (decide (i<j))):=D4 fun _ _ _ _ _ _ _ q=>lt_int q
theorem Bs:jF X (j_ .LtE) (DP fun i j=>.bl (decide (i<=j))):=D4 fun _ _ _ _ _ _ _ q=>le_int q
theorem IZ:jF X (j_ .Gt) (DP fun i j=>.bl (decide (j<i))):=D4 fun _ _ _ _ _ _ _ q=>gt_int q
theorem I0:jF X (j_ .GtE) (DP fun i j=>.bl (decide (j<=i))):=D4 fun _ _ _ _ _ _ _ q=>ge_int q
theorem GN:jF X (j_ .Is) (fun x y H Q=>y= .non/\Q (.bl (decide (x= .non))) H):=by
 intro pins s σ H x y v u Q I Z Y h;obtain⟨rfl,q⟩:=h;cases Y;refine is_none_gen (GL I q ?_);cases x<;>first
  |(cases Z;rfl)
  |(obtain⟨t,rfl⟩:=Z;rfl)
theorem jF.or{r Y:R2}(h:jF X f r)(h':jF X f Y):jF X f (fun x y H Q=>r x y H Q\/Y x y H Q):=by
 intro pins s σ H x y v u Q I W Z q;rcases q with q|q
 ·exact h pins s σ H x y v u Q I W Z q
 ·exact h' pins s σ H x y v u Q I W Z q
theorem KM(b:Expr)(h:op≠ .In:=by decide)(Z:op≠ .NotIn:=by decide):n0 op b=false:=by
 have e1:(op==CmpOp.In)=false:=by cases op<;>first|rfl|exact absurd rfl h
 have e2:(op==CmpOp.NotIn)=false:=by cases op<;>first|rfl|exact absurd rfl Z
 cases b<;>simp[n0,e1,e2]
theorem D7(W:jF X (j_ op) r)(Y:PE X a ta)(S:PE X b tb)(P:n0 op b=c_):PE X (.Compare a [op] [b] pos) (IW r ta tb):=by
 intro pins s σ H Q I h;exact wpAny_Compare1 (GF Y S I h fun v u s2 x y T U R Z q=>W pins s2 σ T x y v u Q U R Z q) P
def FL(t:TE):TT:=fun σ H Q=>t σ H fun x H'=>∃k,x= .bl k/\Q k H'
theorem D8(W:jF X (j_ op) r)(Y:PE X a ta)(Z:PE X b tb)(U:n0 op b=c_):PT X (.Compare a [op] [b] pos) (FL (IW r ta tb)):=by
 intro pins s σ H Q I h;refine wpAny_isTrue_Compare1 (eR (Y pins s σ H _ I h) fun v s1 ⟨x,H1,I1,r1,q1⟩=>eR (Z pins s1 σ H1 _ I1 q1) fun u s2 ⟨y,H2,I2,r2,q2⟩=>
  eR (W pins s2 σ H2 x y v u _ I2 r1 r2 q2) fun c s3 ⟨z,H3,I3,r3,k,e,q3⟩=>?_) U
 subst e;cases r3;exact Nd ⟨H3,I3,q3⟩
def xf(r r':R2)(ta tb tc:TE):TE:=fun σ H Q=>ta σ H fun x H1=>tb σ H1 fun y H2=>r x y H2 fun z H3=>∃k,z= .bl k/\
 (if k=bc then tc σ H3 fun w' H4=>r' y w' H4 Q else Q (.bl c_) H3)
theorem Bt(T:jF X (j_ op) r)(Z:jF X (j_ op') r')(U:PE X a ta)(Y:PE X b tb)(W:PE X c tc)
  (S:QX [op,op'] [b,c]=false:=by with_unfolding_all rfl):PE X (.Compare a [op,op'] [b,c] pos) (xf r r' ta tb tc):=by
 intro pins s σ H Q I h;refine Compare_chain (eR (U pins s σ H _ I h) fun v s1 ⟨x,H1,I1,r1,q1⟩=>chain_link (eR (Y pins s1 σ H1 _ I1 q1) fun u s2 ⟨y,H2,I2,r2,q2⟩=>
  eR (T pins s2 σ H2 x y v u _ I2 r1 r2 q2) fun d s3 ⟨z,H3,I3,r3,k,e,q3⟩=>?_)) S
 subst e;cases r3;refine Nd ?_;cases k with
 |false=>exact ite_ff ⟨.bl c_,H3,I3,rfl,q3⟩
 |true=>exact ite_tt (chain_last (eR (W pins s3 σ H3 _ I3 q3) fun w' s4 ⟨z',H4,I4,r4,q4⟩=>Z pins s4 σ H4 y z' u w' Q I4 r2 r4 q4))
theorem Bu(T:jF X (j_ op) r)(Z:jF X (j_ op') r')(U:PE X a ta)(Y:PE X b tb)(W:PE X c tc)
  (P:QX [op,op'] [b,c]=false:=by with_unfolding_all rfl):PT X (.Compare a [op,op'] [b,c] pos) (FL (xf r r' ta tb tc)):=by
 intro pins s σ H Q I h;refine isTrue_chain (eR (U pins s σ H _ I h) fun v s1 ⟨x,H1,I1,r1,q1⟩=>test_link (eR (Y pins s1 σ H1 _ I1 q1) fun u s2 ⟨y,H2,I2,r2,q2⟩=>
  eR (T pins s2 σ H2 x y v u _ I2 r1 r2 q2) fun d s3 ⟨z,H3,I3,r3,k,e,q3⟩=>?_)) P
 subst e;cases r3;refine Nd ?_;cases k with
 |false=>
  obtain⟨O,R,S⟩:=q3;cases R;exact ite_ff ⟨H3,I3,S⟩
 |true=>
  refine ite_tt (test_last (eR (W pins s3 σ H3 _ I3 q3) fun w' s4 ⟨z',H4,I4,r4,q4⟩=>eR (Z pins s4 σ H4 y z' u w' _ I4 r2 r4 q4) fun d' s5 ⟨z2,H5,I5,r5,k2,e2,q5⟩=>?_));subst e2;cases r5;exact Nd ⟨H5,I5,q5⟩
theorem pW:(sizeLine:Nat)<2 ^ 63:=by rw[MT];decide
theorem vals1(r:bh [x] us):∃u,us=[u]/\RelV x u:=by
 cases r with
 |cons r1 r2=>cases r2;exact⟨_,rfl,r1⟩
theorem vals2(r:bh [x,y] us):∃u w',us=[u,w']/\RelV x u/\RelV y w':=by
 cases r with
 |cons r1 r2=>
  cases r2 with
  |cons r3 r4=>cases r4;exact⟨_,_,rfl,r1,r3⟩
theorem z8(Z:X.calm=bc):dX X (.builtin "max") (fun xs H Q=>∃i j,xs=[.int i,.int j]/\Q (.int (if j>i then j else i)) H):=by
 intro pins s σ H xs us Q I r h;obtain⟨i,j,rfl,q⟩:=h;obtain⟨u,W,rfl,⟨t,rfl⟩,⟨t',rfl⟩⟩:=vals2 r;refine max_two_ints (I.ok.hd Z) fun h' Y k=>⟨_,H,I.kept k,?_,q⟩;by_cases hj:j>i
 ·rw[if_pos hj,if_pos hj];exact⟨_,rfl⟩
 ·rw[if_neg hj,if_neg hj];exact⟨_,rfl⟩
theorem z9(Z:X.calm=bc):dX X (.builtin "min") (fun xs H Q=>∃i j,xs=[.int i,.int j]/\Q (.int (if j<i then j else i)) H):=by
 intro pins s σ H xs us Q I r h;obtain⟨i,j,rfl,q⟩:=h;obtain⟨u,W,rfl,⟨t,rfl⟩,⟨t',rfl⟩⟩:=vals2 r;refine min_two_ints (I.ok.hd Z) fun h' Y k=>⟨_,H,I.kept k,?_,q⟩;by_cases hj:j<i
 ·rw[if_pos hj,if_pos hj];exact⟨_,rfl⟩
 ·rw[if_neg hj,if_neg hj];exact⟨_,rfl⟩
end
end L2
namespace L2
open PySem PySem.Spec PyProof.Rows
structure ObjM(h:fg)(x dx C:dt)(mA:Str->Option aC):Prop where
 obj:h.get? x=ar (Rx C dx)
 ns:h.Ns1 dx mA
 ne:dx≠x
theorem Aa{h:fg}{mA:Str->Option aC}(n:h.Ns1 dx mA):∃od,h.get? dx=ar od/\∀name,QK name od=ar (mA name):=by
 obtain⟨o,es,ep,U,hd,X,_,hm⟩:=n;refine⟨o,U,fun name=>?_⟩;have e:=hm name;unfold nsFind findBy at e;rw[<-Pc]at e;unfold QK;rw[hd];dsimp only;split
 ·rename_i y q
  rw[q]at e;exact N4 ar e
 ·rename_i q
  rw[q]at e;have a:es.toList.any (·.refKey)=false:=by
   rw[List.any_eq_false];intro y Y;obtain⟨z,t,Z⟩:=X y (OT.mp Y);simp[DictEntry.refKey,Z]
  have T:¬ es.toList.any (·.refKey)=true:=by rw[a];exact Nj
  rw[if_neg T];exact N4 ar e
theorem ObjM.look{mA:Str->Option aC}(I:ObjM h x dx C mA):∃od,y' h x (Rx C dx) C (ar od)/\∀name,QK name od=ar (mA name):=
 let ⟨od,ho,hl⟩:=Aa I.ns
 ⟨od,⟨I.obj,rfl,rfl,ho⟩,hl⟩
section
variable {prog:ee}{w:eM}{A:gd}{E:aC->b_->Prop}{s:b_}{K:dV}{x dx C f:dt}{mA:Str->Option aC}{name:Str}{v:aC}
end
theorem tJ.some_of(r:tJ (ar v) o):∃u,o=ar u/\RelV v u:=by
 cases o with
 |none=>exact(show False from r).elim
 |some u=>exact⟨u,rfl,r⟩
theorem Ab(r:RelV v u):W.handedIn u=true:=by
 cases v with
 |non=>cases (show u=hJ from r);rfl
 |bl b=>cases (show u=t4 b from r);rfl
 |int i=>obtain⟨t,e⟩:=(show ∃t,u=pe i t from r);cases e;rfl
 |str x=>obtain⟨t,e⟩:=(show ∃t,u=LI x t from r);cases e;rfl
 |byt b=>obtain⟨t,e⟩:=(show ∃t,u=Value.bytes b t from r);cases e;rfl
 |flt b=>obtain⟨t,e⟩:=(show ∃t,u=Qa b t from r);cases e;rfl
 |ref a=>cases (show u=er a from r);rfl
 |ty n=>cases (show u=t5 n from r);rfl
section
variable {P:ee}{w:eM}{H H':Hp}{h h':fg}{a C dx:dt}{fs fs':List (Str×V)}
theorem fL(Z:gR P w H h)(e:H a=ar (.ins C dx fs)):∃mA,ObjM h a dx C mA/\(∀f,tJ (fs.lookup f) (mA f))/\PySem.Within mA (fs.map (·.1))/\fs.length<=1000/\H dx=ar (.own a):=by
 obtain⟨d,z,ne,Y,mA,n,r,q⟩:=(show bo P w H h a (.ins C dx fs)from Z a _ e);exact⟨mA,⟨Y,n,ne⟩,r,q,z,d⟩
end
structure Cls(K:dV)(C:dt):Prop where
 pg:W.plainGet K C Str.empty=bc
 hd:W.hasDictIn K C=bc
 po:W.plainOver K C=bc
 sa:D' K (.ref C) "__setattr__"=ar (ar (.builtin "object.__setattr__"))
theorem Cls.get{K:dV}{C:dt}(c:Cls K C)(f:Str):W.plainGet K C f=true:=c.pg
structure Con(K:dV)(C:dt)(f:Str)(v:V)(u:aC):Prop where
 at_:D' K (.ref C) f=ar (ar u)
 rel:RelV v u
 get:W.specialIn K u "__get__"=ar none
 cp:W.copiedNames.contains f=c_
structure Meth(K:dV)(C:dt)(m:Str)(f:dt):Prop where
 at_:D' K (.ref C) m=ar (ar (.ref f))
 fn:W.isFn K (.ref f)=bc
 kp:z3 K (.ref f)=bc
section
variable {X:Cx}{pins:List (dt×Obj)}{σ:St}{H:Hp}{s:b_}{a C dx:dt}{fs:List (Str×V)}{f:Str}{v:V}{A:gd}{E:aC->b_->Prop}
theorem D9(Y:n3 e f env (gg e env)=gg e env)
  (h:eb (e_ prog w) A (gg e env) (fun o Z=>eb (e_ prog w) A (R4 o f bc) Q E Z) E s):eb (e_ prog w) A (gg (.Attribute e f pos) env) Q E s:=
 Attribute_any_ h (by rw[arm_eval_Attribute,Y])
end
section
variable {X:Cx}{o e value:Expr}{f:Str}{pos pos' tpos:Pos}{ta tv:TE}
end
section
variable {X:Cx}{pins:List (dt×Obj)}{σ:St}{H:Hp}{s:b_}{A:gd}{E:aC->b_->Prop}{Q:aC->b_->Prop}{c:aC}{b:Bool}
inductive TyOf(K:dV)(H:Hp):V->aC->Prop where
 |non:TyOf K H .non (.type "NoneType")
 |bl (x:Bool):TyOf K H (.bl x) (.type "bool")
 |int (i:Int):TyOf K H (.int i) (.type "int")
 |str (x:Str):TyOf K H (.str x) (.type "str")
 |flt (x:UInt64):TyOf K H (.flt x) (.type "float")
 |lst {a:dt} {xs:List V} (e:H a=ar (.lst xs)):TyOf K H (.ref a) (.type "list")
 |frz {a:dt} {o:Obj} {xs:List V} (e:H a=ar (.frz o (.lst xs))):TyOf K H (.ref a) (.type "list")
 |tup {a:dt} {xs:List V} (e:H a=ar (.tup xs)):TyOf K H (.ref a) (.type "tuple")
 |dK {a:dt} {kvs:List (Key×V)} (e:H a=ar (.dK kvs)):TyOf K H (.ref a) (.type "dict")
 |dT {a:dt} {kvs:List (List Key×V)} (e:H a=ar (.dT kvs)):TyOf K H (.ref a) (.type "dict")
 | ins {a C dx:dt} {fs:List (Str×V)} (e:H a=ar (.ins C dx fs)) (cl:Cls K C) (ha:D' K (.ref C) "__class__"=ar (ar (.builtin "object.__class__")))
   (hn:W.specialIn K (.builtin "object.__class__") "__get__"=ar (ar (.builtin "getset_descriptor.__get__"))) (htk:W.takesIn K (.builtin "object.__class__")=ar bc)
   (hm:W.mroIn K C (.type "object")=ar bc):TyOf K H (.ref a) (.ref C)
theorem Ac(I:Inv X pins σ H s)(Z:RelV x u)(T:TyOf X.K H x t)(e:ri X.K t c=ar b)(h:∀tk,Q (.bool b) {s with toks:=tk}):
  eb (e_ X.prog X.w) A (call (.builtin "isinstance") [u,c]) Q E s:=by
 cases T with
 |non=>cases (show u=hJ from Z);exact MU Po I.kIn p7 e (fun z=>nomatch z) h
 |bl y=>cases (show u=t4 y from Z);exact MU W.kitx_bool I.kIn p7 e (fun z=>nomatch z) h
 |int i=>obtain⟨t,q⟩:=(show ∃t,u=pe i t from Z);cases q;exact MU W.kitx_int I.kIn p7 e (fun z=>nomatch z) h
 |str y=>obtain⟨t,q⟩:=(show ∃t,u=LI y t from Z);cases q;exact MU W.kitx_str I.kIn p7 e (fun z=>nomatch z) h
 |flt y=>obtain⟨t,q⟩:=(show ∃t,u=Qa y t from Z);cases q;exact MU W.kitx_float I.kIn p7 e (fun z=>nomatch z) h
 | @lst a xs ea=>
  cases (show u=er a from Z);obtain⟨_,_,n,_,Y⟩:=(show bo X.prog X.w H s.heap a (.lst xs)from I.hok a _ ea);exact MU OE I.kIn ⟨_,Y,rfl⟩ e (fun z=>nomatch z) h
 | @frz a ob xs ea=>
  cases (show u=er a from Z);obtain⟨_,_,_,n,_,Y⟩:=(show bo X.prog X.w H s.heap a (.frz ob (.lst xs))from I.hok a _ ea);exact MU OE I.kIn ⟨_,Y,rfl⟩ e (fun z=>nomatch z) h
 | @tup a xs ea=>
  cases (show u=er a from Z);obtain⟨_,_,_,p⟩:=(show bo X.prog X.w H s.heap a (.tup xs)from I.hok a _ ea);obtain⟨o,Y,U,_⟩:=p;exact MU W.kitx_tuple I.kIn ⟨o,Y,U⟩ e (fun z=>nomatch z) h
 | @dK a kvs ea=>
  cases (show u=er a from Z);obtain⟨_,_,vs,_,p⟩:=(show bo X.prog X.w H s.heap a (.dK kvs)from I.hok a _ ea);obtain⟨o,es,ep,Y,U,_⟩:=p;exact MU OF I.kIn ⟨o,Y,U.1⟩ e (fun z=>nomatch z) h
 | @dT a kvs ea=>
  cases (show u=er a from Z);obtain⟨_,_,xs,_,o,es,ep,Y,U,_⟩:=(show bo X.prog X.w H s.heap a (.dT kvs)from I.hok a _ ea);exact MU OF I.kIn ⟨o,Y,U.1⟩ e (fun z=>nomatch z) h
 | @ins a C dx fs ea cl ha hn htk hm=>
  cases (show u=er a from Z);obtain⟨mA,O,_⟩:=fL I.hok ea;obtain⟨od,J,_⟩:=O.look;exact MU (W.kitx_own (cl.get _) cl.hd ha hn htk hm) I.kIn J e (fun z=>nomatch z) h
end
end L2
namespace L2
open PySem PySem.Spec PyProof.Rows
structure Room(k:Nat)(A:gd):Prop where
 hd:A.handled=none
 dp:A.depth+3*k+5<recursionLimit
 un:A.units+16*k+200<u4
theorem Room.mono(r:Room k A)(h:j<=k):Room j A:=⟨r.hd,by have:=r.dp;omega,by have:=r.un;omega⟩
theorem Room.deeper(r:Room (k+1) A)(env:Env):Room k (A.deeper env):=
 ⟨r.hd,by have:=r.dp;show A.depth+1+3*k+5<_;omega,by have:=r.un;show A.units+3+16*k+200<_;omega⟩
theorem xg{A:gd}:(A.under (.builtin "type.__call__" ⟨.ref C::us,kw⟩)).depth=A.depth+1:=by
 first|rfl|simp[QL,Code.weight,Code.isCreation,Code.isGuard,Code.isCaller,Code.frames,QM,guardIds]
theorem xh{A:gd}:(A.under (.builtin "type.__call__" ⟨.ref C::us,kw⟩)).units=A.units+1:=by
 first|rfl|simp[QL,Code.cUnits,Code.frames,QM]
theorem Room.make(r:Room (k+1) A)(C:dt)(us:List aC)(Z:List (Str×aC)):Room k (A.under (.builtin "type.__call__" ⟨.ref C::us,Z⟩)):=
 ⟨r.hd,by have:=r.dp;rw[xg];omega,by have:=r.un;rw[xh];omega⟩
theorem Room.depth(r:Room k A):A.depth<recursionLimit:=by have:=r.dp;omega
def KN:TA:=fun _ H Q=>Q [] H
def Ja(ta:TE)(tr:TA):TA:=fun σ H Q=>ta σ H fun x H1=>tr σ H1 fun xs H2=>Q (x::xs) H2
section
variable {X:Cx}{e:Expr}{es:List Expr}{te:TE}{t:TA}{pos:Pos}
theorem kh:PA X [] KN:=fun _ _ _ _ H Q I h=>Calls.spliced_nil ⟨[],H,I,.nil,h⟩
theorem fM(Z:PE X e te)(Y:PA X es t)(hs:d_ (e::es) X.env=(c_,gg e X.env)::d_ es X.env:=by rfl):PA X (e::es) (Ja te t):=by
 intro pos pins s σ H Q I h;rw[hs];show eb _ _ (spliced ((c_,gg e X.env)::pa pos (d_ es X.env))) _ _ s;refine Calls.spliced_cons (eR (Z pins s σ H _ I h) fun u s1 ⟨x,H1,I1,r1,q1⟩=>?_);exact eR (Y pos pins s1 σ H1 _ I1 q1) fun us s2 ⟨xs,H2,I2,r2,q2⟩=>⟨x::xs,H2,I2,.cons r1 r2,q2⟩
def KO(t:TA):TE:=fun σ H Q=>t σ H fun xs H1=>xs.length<=sizeLine/\∀p,H1 p=none->Q (.ref p) (upd H1 p (.tup xs))
def KP(t:TA):TE:=fun σ H Q=>t σ H fun xs H1=>xs.length<=sizeLine/\∀p,H1 p=none->Q (.ref p) (upd H1 p (.lst xs))
theorem Bv{x1}(h:PA X es t):PE X (.Tuple es x1 pos) (KO t):=by
 intro pins s σ H Q I Z;refine wpAny_Tuple_spliced (eR (h pos pins s σ H _ I Z) fun us s1 ⟨xs,H1,I1,r,z,q⟩=>⟨by rw[<-r.length];exact z,?_⟩)
 have hf:H1 s1.heap.objs.size=none:=I1.hok.fresh (LU _);refine⟨.ref s1.heap.objs.size,upd H1 s1.heap.objs.size (.tup xs),I1.laid (t':=s1.toks) (fun b u e=>LQ _ e) (LU _) ?_,rfl,q _ hf⟩;exact⟨pR z,us,r,⟨_,L3 _ rfl,rfl,_,rfl⟩⟩
theorem GO(h:PA X es t):PE X (.List es pos) (KP t):=by
 intro pins s σ H Q I Z;refine wpAny_List_spliced (eR (h pos pins s σ H _ I Z) fun us s1 ⟨xs,H1,I1,r,z,q⟩=>⟨by rw[<-r.length];exact z,?_⟩)
 have hf:H1 s1.heap.objs.size=none:=I1.hok.fresh (LU _);refine⟨.ref s1.heap.objs.size,upd H1 s1.heap.objs.size (.lst xs),I1.laid (t':=s1.toks) (fun b u e=>LQ _ e) (LU _) ?_,rfl,q _ hf⟩;exact⟨z,us,0,r,L3 _ rfl⟩
end
abbrev Sp:=List V->Hp->VK->XK->Prop
abbrev Be:=List Env->Hp->b_->XK->aC->b_->Prop
structure aQ(P:ee)(w:eM)(K:dV)(mg:Str->Option aC)(base:fg)(A:gd)(outer:List Env)(s:b_)(H:Hp):Prop where
 frames:A.frames=ar outer
 mod:Mod K mg base
 bs:∀b o,base.get? b=ar o->s.heap.get? b=ar o/\H b=none
 bsz:base.objs.size<=s.heap.objs.size
 funs:s.heap.FunFrames base outer
 frf:∀b∈ke outer,H b=none
 hok:gR P w H s.heap
 bare:y4 s.gens
def CE(outer:List Env)(P:ee)(w:eM)(H:Hp)(s:b_)(Q:VK)(u:aC)(s':b_):Prop:=
 ∃v H',s'.os=s.os/\y4 s'.gens/\Un (ke outer) [] H H' s.heap s'.heap/\gR P w H' s'.heap/\RelV v u/\Q v H'
def CR(CX:Be)(outer:List Env)(P:ee)(w:eM)(H:Hp)(s:b_)(Q:VK)(E:XK)(r:RW)(s':b_):Prop:=
 match r with
 | .ok (.ret u)=>CE outer P w H s Q u s'
 | .ok _=>False
 | .error e=>CX outer H s E e s'
structure FnOk(P:ee)(w:eM)(K:dV)(mg:Str->Option aC)(base:fg)(CX:Be)(k:Nat)(f:dt)(fd:fc)(ps:List Str)(sp:Sp):Prop where
 len:∀vs H Q E,sp vs H Q E->vs.length=ps.length
 run:∀(A:gd) (outer:List Env) (s:b_) (H:Hp) (args:Args) (us:List aC) (vs:List V) (Q:VK) (E:XK),Room k A->aQ P w K mg base A outer s H->GB s fd args (ps.zip us)->bh vs us->sp vs H Q E->
  B_ (e_ P w) A (.call (.ref f) args) (CR CX outer P w H s Q E) s
theorem aQ.make{P:ee}{w:eM}{K:dV}{Z:Str->Option aC}{base:fg}{A:gd}{outer:List Env}{s:b_}{H:Hp}(e:aQ P w K Z base A outer s H)(C:dt)(us:List aC)(Y:List (Str×aC)):
  aQ P w K Z base (A.under (.builtin "type.__call__" ⟨.ref C::us,Y⟩)) outer s H:=⟨by first|exact e.frames|(simpa [QL,Code.envs,QM,pushEnvs]using e.frames),e.mod,e.bs,e.bsz,e.funs,e.frf,e.hok,e.bare⟩
section
variable {X:Cx}{pins:List (dt×Obj)}{σ:St}{H:Hp}{s s':b_}
theorem Inv.env0(I:Inv X pins σ H s):aQ X.prog X.w X.K X.mg X.base X.A X.stack s H:=
 ⟨I.ok.frames,I.ok.mod,I.bs,Ma I.ok.bsz I.sz,I.stack,I.stkFree,I.hok,I.bare⟩
theorem Inv.after(I:Inv X pins σ H s)(h:CE X.stack X.prog X.w H s Q u s'):EP X pins σ Q u s':=by
 obtain⟨v,W,os,bare,un,Y,r,q⟩:=h;obtain⟨U,g,d,t,Z⟩:=s';obtain rfl:Z=s.os:=os;exact⟨v,W,I.call (h':=U) (g':=g) (d':=d) (t':=t) (ch:=[]) un Y bare (fun b z=>absurd z (by simp)),r,q⟩
end
def Jb(sp:Sp)(dvs:List V)(E:XK)(t:TA):TE:=fun σ H Q=>t σ H fun vs H1=>sp (vs++dvs) H1 Q E
def Binds(K:dV)(fd:fc)(ps:List Str)(ds:List aC):Prop:=
 ∀(s:b_) (us:List aC),K.In s.heap->(us++ds).length=ps.length->GB s fd ⟨us,[]⟩ (ps.zip (us++ds))
theorem Binds.all{K:dV}{X:fc}{Z:List Str}(h:∀us:List aC,us.length=Z.length->Rj X ⟨us,[]⟩=a_ (Z.zip us)):Binds K X Z []:=fun s us _ Y=>by
 rw[MI]at Y⊢;exact .of_eq (h us Y)
def pX(CX:Be)(X:Cx)(E:XK):Prop:=∀(pins:List (dt×Obj)) (σ:St) (H:Hp) (s:b_) (e:aC) (s':b_),Inv X pins σ H s->CX X.stack H s E e s'->X.xe e s'
section
variable {X:Cx}{CX:Be}{k:Nat}{f C:dt}{fd:fc}{ps:List Str}{sp:Sp}{dvs:List V}{ds:List aC}{E:XK}{x m:Str}{p pos apos:Pos}{e o:Expr}{es:List Expr}{ta:TE}{t:TA}
theorem GP(F:FnOk X.prog X.w X.K X.mg X.base CX k f fd ps sp)(R:Room k X.A)(W:Binds X.K fd ps ds)(S:bh dvs ds)(T:pX CX X E)
  (I:Inv X pins σ H s) (r:bh vs us) (h:sp (vs++dvs) H Q E):eb (e_ X.prog X.w) X.A (call (.ref f) us) (EP X pins σ Q) X.xe s:=by
 have Y:bh (vs++dvs) (us++ds):=r.append S;have U:(us++ds).length=ps.length:=by rw[<-Y.length];exact F.len _ _ _ _ h
 refine OG (NC (F.run X.A X.stack s H ⟨us,[]⟩ (us++ds) (vs++dvs) Q E R I.env0 (W s us I.kIn U) Y h) fun r s' Z=>?_);cases r with
 |error e=>exact T pins σ H s e s' I Z
 |ok fl=>
  cases fl with
  |ret u=>exact I.after Z
  |next=>exact g_ Z
  |brk=>exact g_ Z
  |cont=>exact g_ Z
theorem tP(F:FnOk X.prog X.w X.K X.mg X.base CX k f fd ps sp)(L:Room k X.A)(O:Gl X x)(J:X.mg x=ar (.ref f))(T:z3 X.K (.ref f)=bc)(N:Binds X.K fd ps ds)(R:bh dvs ds)(U:pX CX X E)
  (S:PA X (e::es) t) (Z:(x==("__debug__":Str))=false:=by decide) (P:d_ (e::es) X.env=(c_,gg e X.env)::d_ es X.env:=by rfl) (Y:(pa pos (d_ es X.env)).any (·.1)=false:=by rfl):
  PE X (.Call (.Name x p) (e::es) [] pos) (Jb sp dvs E t):=by
 intro pins s σ H Q I h;refine NT (kR I O J ?_ Z);refine W.callWith_K (h₀:=X.base) I.ok.mod.kin T (eR (S pos pins s σ H _ I h) fun us s1 ⟨vs,H1,I1,r,q⟩=>⟨I1.kIn,?_⟩) P Y;exact GP F L N R U I1 r q
structure Mk(K:dV)(C f:dt):Prop where
 makes:W.makesIn K C=bc
 init:D' K (.ref C) "__init__"=ar (ar (.ref f))
 fn:W.isFn K (.ref f)=bc
 kp:z3 K (.ref C)=bc
end
section
variable {X:Cx}{CX:Be}{k:Nat}{f C:dt}{fd:fc}{ps ks:List Str}{sp:Sp}{E:XK}{x m:Str}{p pos apos kpos:Pos}{e o:Expr}{es:List Expr}{kws:List Rc}{te ta:TE}{t tk:TA}{nm:Option Str}
structure KBinds(K:dV)(fd:fc)(ps ks:List Str)(g:List aC->List aC->List aC)(gV:List V->List V->List V):Prop where
 to:∀(s:b_) (us ws:List aC),K.In s.heap->(g us ws).length=ps.length->GB s fd ⟨us,ks.zip ws⟩ (ps.zip (g us ws))
 rel:∀{vs:List V} {us:List aC} {zs:List V} {ws:List aC},bh vs us->bh zs ws->bh (gV vs zs) (g us ws)
variable {g:List aC->List aC->List aC}{gV:List V->List V->List V}
end
structure FnScope(N P:List Str)(sc:Scope):Prop where
 kind:sc.kind= .function
 co:sc.isCoroutine=c_
 gen:sc.isGenerator=c_
 nd:N.Nodup
 pre:N.take P.length=P
 par:∀x∈P,sc.names.lookup x=ar .local\/sc.names.lookup x=ar .cell
 nofree:∀y∈sc.names,y.2≠ .free
theorem sm{Z:Str->Option n7}{x:Str}:∀{binds:List (Str×aC)} {m:Str->Option aC},(∀v,(x,v)∉binds)->Rk Z binds m x=m x
 |[],_,_=>rfl
 | (n,v)::r,m,h=>by
  unfold Rk;rw[sm fun w hw=>h w (L5 _ hw)];split
  ·have:x≠n:=by rintro rfl;exact h v Md
   simp[this]
  ·rfl
theorem sr{Z:Str->Option n7}{x:Str}:∀{binds:List (Str×aC)} {m:Str->Option aC},(∀v,(x,v)∉binds)->Rl Z binds m x=m x
 |[],_,_=>rfl
 | (n,v)::r,m,h=>by
  unfold Rl;rw[sr fun w hw=>h w (L5 _ hw)];split
  ·rfl
  ·have:x≠n:=by rintro rfl;exact h v Md
   simp[this]
theorem su{Z:Str->Option n7}:∀{P:List Str} {vs:List aC} {i:Nat} {m:Str->Option aC},P.Nodup->P[i]? =ar x->vs[i]? =ar v->Z x=ar .local->
  Rk Z (P.zip vs) m x=ar v
 |[],_,_,_,_,h,_,_=>by simp at h
 |_::_,[],_,_,_,_,h,_=>by simp at h
 |p::P,w::vs,0,m,nd,h1,h2,hk=>by
  simp at h1 h2;subst h1;subst h2;show Rk Z ((p,w)::P.zip vs) m p=_;unfold Rk;rw[sm fun v Y=>(MM.mp nd).1 (Oq Y).1,if_pos hk];simp
 |p::P,w::vs,i+1,m,nd,h1,h2,hk=>by
  show Rk Z ((p,w)::P.zip vs) m x=_;unfold Rk;exact su (i:=i) (MM.mp nd).2 (by simpa using h1) (by simpa using h2) hk
theorem sv{Z:Str->Option n7}:∀{P:List Str} {vs:List aC} {i:Nat} {m:Str->Option aC},P.Nodup->P[i]? =ar x->vs[i]? =ar v->Z x≠ar .local->
  Rl Z (P.zip vs) m x=ar v
 |[],_,_,_,_,h,_,_=>by simp at h
 |_::_,[],_,_,_,_,h,_=>by simp at h
 |p::P,w::vs,0,m,nd,h1,h2,hk=>by
  simp at h1 h2;subst h1;subst h2;show Rl Z ((p,w)::P.zip vs) m p=_;unfold Rl;rw[sr fun v Y=>(MM.mp nd).1 (Oq Y).1,if_neg hk];simp
 |p::P,w::vs,i+1,m,nd,h1,h2,hk=>by
  show Rl Z ((p,w)::P.zip vs) m x=_;unfold Rl;exact sv (i:=i) (MM.mp nd).2 (by simpa using h1) (by simpa using h2) hk
def start(N:List Str)(vs:List V):St:=vs.map ar++l3 (N.length - vs.length) none
def jH(CX:Be)(P:ee)(w:eM)(K:dV)(mg:Str->Option aC)(base:fg)(N:List Str)(qual:Str)(scope:Scope)(f:dt)(cd:aC)(A:gd)(outer:List Env)(s:b_)(H:Hp)(E:XK):Cx where
 prog:=P
 w:=w
 K:=K
 mg:=mg
 base:=base
 A:=A.deeper (y1 qual scope s.heap.objs.size f cd)
 N:=N
 s₀:=s
 H₀:=H
 env:=y1 qual scope s.heap.objs.size f cd
 outer:=outer
 stack:=y1 qual scope s.heap.objs.size f cd::outer
 ex:=[]
 calm:=bc
 fn:=fun _=>bc
 pn:=[]
 xe:=fun e s'=>eb (e_ P w) (A.deeper (y1 qual scope s.heap.objs.size f cd)) (Qt (y1 qual scope s.heap.objs.size f cd) e) (fun _ s''=>CX outer H s E e s'') (fun e' s''=>CX outer H s E e' s'') s'
theorem vx{Z:Scope}(h:Z.names.lookup x=ar .cell):∃c,(k_ n Z.names []).lookup x=ar c:=by
 have q:=OB Z.names n [] (.inl h);exact MO.mp q
theorem Ad{G:Be}{P:ee}{w:eM}{K:dV}{J:Str->Option aC}{base:fg}{N T:List Str}{qual:Str}{scope:Scope}{f:dt}{O:aC}{A:gd}{outer:List Env}{s F:b_}{H:Hp}{E:XK}{us:List aC}{vs:List V}
  (S:FnScope N T scope) (o:A.handled=none) (Y:aQ P w K J base A outer s H) (l:vs.length=T.length) (r:bh vs us)
  (x:InCallC s s.heap.objs.size (Rk (y1 qual scope s.heap.objs.size f O).kindOf (T.zip us) fun _=>none) (k_ (s.heap.objs.size+1) scope.names []) (Rl (y1 qual scope s.heap.objs.size f O).kindOf (T.zip us) fun _=>none) F):
  Inv (jH G P w K J base N qual scope f O A outer s H E) [] (start N vs) H F:=by
 have m:T.length<=N.length:=by have:=N4 G2 S.pre;rw[MK]at this;omega
 obtain⟨L,g,rfl,I⟩:=x.done;have U:∀b:dt,b∉(jH G P w K J base N qual scope f O A outer s H E).ex:=fun b z=>absurd (show b∈([]:List dt)from z) (by simp)
 refine⟨⟨Y.mod,S.kind,rfl,rfl,LU _,fun y z c L Z=>?_,fun y X=>?_,fun y c _ h=>?_,fun _=>o,Around.frames_deeper Y.frames,.inr ⟨rfl,rfl⟩,fun b z=>absurd z (U b),Y.bs,Y.bsz,fun b _ _=>U b,fun b z=>absurd z (U b),Y.funs,Y.frf⟩,
  rfl,Y.bare,Un.kept I,⟨_,x.toInCall.ns,fun i y v L Z j=>?_⟩,fun y c h=>⟨_,x.cell y c h⟩,Y.hok.fresh (LU _),fun y c h=>?_,fun p Q=>absurd (show p∈([]:List (dt×Obj))from Q) (by simp),Y.hok.kept I,?_⟩
 ·exact name_of_addr x.apart (NF L) (NF Z)
 ·have X:scope.names.lookup y=ar .cell\/scope.names.lookup y=ar .free:=X;rcases X with X|X
  ·exact vx X
  ·exact absurd rfl (S.nofree _ (NF X))
 ·exact Nu (x.above y c (NF h))
 ·have hi:i<vs.length:=by
   unfold start at Z;by_cases hi:i<vs.length
   ·exact hi
   ·rw[Nq (by simpa using hi)]at Z
    rw[List.getElem?_replicate]at Z;split at Z<;>cases Z
  have B:vs[i]? =ar v:=by
   unfold start at Z;rw[Mv (by simpa using hi),Mi]at Z
   cases e:vs[i]? with
   |none=>rw[e]at Z;cases Z
   |some a=>rw[e]at Z;cases Z;rfl
  obtain⟨u,C,t⟩:=r.get B;have Q:T[i]? =ar y:=by
   rw[<-S.pre,Pp (by omega)];exact L
  have R:T.Nodup:=by rw[<-S.pre];exact S.nd.sublist (Pq _ _)
  refine⟨u,t,?_⟩;rcases S.par y (Mx Q)with k|k
  ·exact .inl ⟨k,su R Q C k⟩
  ·obtain⟨c,e⟩:=vx (n:=s.heap.objs.size+1) k;refine .inr ⟨.inl k,c,e,?_⟩;have q:=x.cell y c e;rw[sv R Q C (by show scope.names.lookup y≠_;rw[k];decide)]at q
   exact q
 ·exact Y.hok.fresh (Nu (x.above y c (NF h)))
 ·unfold start;show _=N.length;rw[LW,LR,List.length_replicate];omega
theorem Bw{B:Be}{P:ee}{w:eM}{K:dV}{F:Str->Option aC}{base:fg}{k:Nat}{f:dt}{name qual:Str}{params:Qu}{body:List p4}{scope:Scope}{g kV G j Z ct oc:aC}{i od:Option dt}
  {m:Array (Option aC)} {N C:List Str} {sp:Sp} (lk:K.lookup f=ar ⟨oc,od,.func (D_ name qual params body scope g kV G j i Z ct),m⟩) (z:QN K Z qual=bc) (S:FnScope N C scope)
  (R:∀vs H Q E,sp vs H Q E->vs.length=C.length)
  (T:∀(A:gd) (outer:List Env) (s:b_) (H:Hp) (vs:List V) (Q:VK) (E:XK),Room k (A.deeper (y1 qual scope s.heap.objs.size f Z))->sp vs H Q E->
   ∃t,rJ (jH B P w K F base N qual scope f Z A outer s H E) body t/\t {nx:=fun _ X=>Q .non X,rt:=Q} (start N vs) H):
  FnOk P w K F base B (k+1) f (D_ name qual params body scope g kV G j i Z ct) C sp:=by
 refine⟨R,fun A outer s H args us vs Q E l L a r O=>?_⟩;have d:=R _ _ _ _ O;have h:K.In s.heap:=L.mod.kin.keeps fun b o e=>(L.bs b o e).1;have lim:s.heap.NoLimit:=L.mod.nolimit.keeps fun b o e=>(L.bs b o e).1;have U:∀y∈C.zip us,scope.names.lookup y.1=ar .local\/(scope.names.lookup y.1=ar .cell/\((k_ (s.heap.objs.size+1) scope.names []).lookup y.1).isSome=bc):=fun⟨n,v⟩ hy=>by
  rcases S.par n (Oq hy).1 with q|q
  ·exact .inl q
  ·exact .inr ⟨q,OB _ _ _ (.inl q)⟩
 refine codeAny_call_function l.depth (h _ _ lk) rfl S.co S.gen rfl (W.codeRec_of h z) (a _ _ _ _ ?_);refine wpAny_newFunctionEnv_cells S.kind U fun env he s1 x=>?_;subst he;refine⟨lim.keeps x.toInCall.keep,codeAny_func ?_⟩;obtain⟨t,c,hq⟩:=T A outer s H vs Q E (l.deeper _) O;have I:Inv (jH B P w K F base N qual scope f Z A outer s H E) [] (start N vs) H s1:=Ad S l.hd L d r x;refine MJ (c [] s1 (start N vs) H _ I hq) (fun fl s' hs=>?_) fun e s' hs=>hs;have fin:∀{Y:St} {X:Hp} {v:V} {u:aC},Inv (jH B P w K F base N qual scope f Z A outer s H E) [] Y X s'->RelV v u->Q v X->CE outer P w H s Q u s':=
  fun{Y X v u} J p q=>⟨v,X,J.os,J.bare,J.base,J.hok,p,q⟩
 cases fl with
 |ret u=>
  obtain⟨v,Y,X,J,p,q⟩:=hs;exact fin J p q
 |next=>
  obtain⟨Y,X,J,q⟩:=hs;exact fin (v:=V.non) (u:=hJ) J rfl q
 |brk=>
  obtain⟨_,_,_,q⟩:=hs;exact g_ q
 |cont=>
  obtain⟨_,_,_,q⟩:=hs;exact g_ q
end L2
namespace L2
open PySem PySem.Spec PyProof.Rows
section
variable {X:Cx}{x:Str}{p pos:Pos}{e:Expr}{es:List Expr}{t:TA}{id T:String}{r:List V->Hp->VK->Prop}
def KQ(r:List V->Hp->VK->Prop)(t:TA):TE:=fun σ H Q=>t σ H fun vs H1=>r vs H1 Q
theorem ki(W:dX X (.builtin id) r)(O:Gl X x)(N:X.mg x=none)(R:lx x=ar (.builtin id))(S:PA X (e::es) t)(U:x≠"__name__":=by decide)(Y:(x==("__debug__":Str))=false:=by decide)
  (P:d_ (e::es) X.env=(c_,gg e X.env)::d_ es X.env:=by rfl) (Z:(pa pos (d_ es X.env)).any (·.1)=false:=by rfl):PE X (.Call (.Name x p) (e::es) [] pos) (KQ r t):=by
 intro pins s σ H Q I h;refine NT (lU I O N R ?_ U Y);exact PyProof.Rows.callWith_builtin1 (eR (S pos pins s σ H _ I h) fun us s1 ⟨vs,H1,I1,r1,q1⟩=>W pins s1 σ H1 vs us Q I1 r1 q1) P Z
theorem kS(W:dX X (.type T) r)(O:Gl X x)(N:X.mg x=none)(R:lx x=ar (.type T))(S:PA X (e::es) t)(U:x≠"__name__":=by decide)(Y:(x==("__debug__":Str))=false:=by decide)
  (P:d_ (e::es) X.env=(c_,gg e X.env)::d_ es X.env:=by rfl) (Z:(pa pos (d_ es X.env)).any (·.1)=false:=by rfl):PE X (.Call (.Name x p) (e::es) [] pos) (KQ r t):=by
 intro pins s σ H Q I h;refine NT (lU I O N R ?_ U Y);exact M8 (eR (S pos pins s σ H _ I h) fun us s1 ⟨vs,H1,I1,r1,q1⟩=>W pins s1 σ H1 vs us Q I1 r1 q1) P Z
end
end L2
namespace HT
open PySem PyProof.Rows
def lexLt:List Int->List Int->Bool
 |[],[]=>c_
 |[],_::_=>bc
 |_::_,[]=>c_
 |x::xs,y::ys=>if x=y then lexLt xs ys else decide (x<y)
theorem lexLt_cons(x y:Int)(xs ys:List Int):lexLt (x::xs) (y::ys)=if x=y then lexLt xs ys else decide (x<y):=rfl
theorem rK:lexLt [] []=false:=rfl
theorem pY(y:Int)(ys:List Int):lexLt [] (y::ys)=true:=rfl
theorem pZ(x:Int)(xs:List Int):lexLt (x::xs) []=false:=rfl
theorem Bx(A:gd)(s:b_)(a:Int)(t:Tok)(c:Int)(u:Tok):∃e,SeqAt.EqAt A s (.int a t) (.int c u) e/\(e=bc↔a=c):=
 ⟨(a==c),SeqAt.EqAt.int_int a t c u,by simp⟩
theorem By(A:gd)(s:b_)(a:Int)(t:Tok)(c:Int)(u:Tok)(prog:ee)(w:eM)(E:aC->b_->Prop)(Q:aC->b_->Prop)(h:Q (.bool (decide (a<c))) s):
  eb (e_ prog w) A (richCompare .Lt (.int a t) (.int c u)) Q E s:=
 (PyProof.Rows.lt_int h:eb (e_ prog w) A (j_ .Lt (.int a t) (.int c u)) Q E s)
section
open PySem.SeqAt
open PySem.AutoSeq1 (wpAny_loadPart')
open PySem.MeetsSeq PySem.MeetsSeq2 PySem.MeetsSeq3
theorem rL(l b:dt)(items Z:Array aC)(n N:Nat)(dd S:Option dt)(K T:Array (Option aC))(ns ms:List Int)(hi:oD items.toList ns)(Q:oD Z.toList ms):
  Sa (Builtin.«tuple.__lt__» ⟨[.ref l,.ref b],[]⟩)
   (fun _ R s=>s.heap.get? l=ar {cls:=.type "tuple",dict:=dd,data:=.seq items n,slots:=K}/\s.heap.get? b=ar {cls:=.type "tuple",dict:=S,data:=.seq Z N,slots:=T}/\
    R (.ok (.ret (.bool (lexLt ns ms)))) s):=
 .of_wp fun prog w A R s h=>by
  obtain⟨W,g,d,X,os⟩:=s;obtain⟨O,L,h⟩:=h;have f2:=AutoSeq1.sub_tuple_tuple;have J:items.size=ns.length:=by rw[<-hi.length];simp
  have I:Z.size=ms.length:=by rw[<-Q.length];simp
  wp_walk using PZ O,PZ L,Od _ (fun rest b s'=>b.1=none/\s'=⟨W,g,d,X,os⟩/\∃(vs ws:List aC) (ns' ms':List Int),rest=vs.zip ws/\
   oD vs ns'/\oD ws ms'/\ns'.length+Z.size=ms'.length+items.size/\R (.ok (.ret (.bool (lexLt ns' ms')))) ⟨W,g,d,X,os⟩) _
  case turn=>
   rintro⟨y,x⟩ rest b s' ⟨hb',rfl,vs,ws,ns',ms',hz,hvi,hwi,hlen,hR⟩;cases hvi with
   |nil=>rw[List.zip_nil_left]at hz;cases hz
   | cons a t hvi'=>
    cases hwi with
    |nil=>rw[List.zip_nil_right]at hz;cases hz
    | cons c u hwi'=>
     rw[Pd]at hz;injection hz with hyx hrest;injection hyx with hy hx;subst hy hx;rw[lexLt_cons]at hR;simp only[q_]at hlen;obtain⟨e,he,Y⟩:=Bx A.in1 ⟨W,g,d,X,os⟩ a t c u;refine LP (he prog w _ _ ?_);cases e with
     |true=>
      rw[if_pos (Y.mp rfl)]at hR
      wp_walk
      exact⟨rfl,rfl,_,_,_,_,hrest,hvi',hwi',by omega,hR⟩
     |false=>
      rw[if_neg (fun q=>absurd (Y.mpr q) Nj)]at hR;have U:=By A.in1 ⟨W,g,d,X,os⟩ a t c u prog w
      wp_walk using U
      exact⟨_,rfl,by simpa using hR⟩
  case fin=>
   rintro⟨b1,b2⟩ s' ⟨hb',rfl,vs,ws,ns',ms',hz,hvi,hwi,hlen,hR⟩;simp only at hb';subst hb';have P:lexLt ns' ms'=decide (items.size<Z.size):=by
    cases hvi with
    | nil=>
     cases hwi with
     |nil=>
      simp only[A2]at hlen;rw[rK];exact(Mj (by omega)).symm
     |cons c u hw=>
      simp only[A2,q_]at hlen;rw[pY];exact(L8 (by omega)).symm
    | cons a t P=>
     cases hwi with
     |nil=>
      simp only[A2,q_]at hlen;rw[pZ];exact(Mj (by omega)).symm
     |cons c u hw=>
      rw[Pd]at hz;cases hz
   rw[P]at hR
   wp_walk
   exact⟨_,rfl,by simpa [Builtin.Tuple.tupleCompareSizes]using hR⟩
  case h=>
   exact⟨rfl,rfl,items.toList,Z.toList,ns,ms,rfl,hi,Q,by omega,h⟩
end
section
variable {prog:ee}{w:eM}{A:gd}{E:aC->b_->Prop}{s:b_}
theorem lt_tupInts{Q:aC->b_->Prop}(R:Rw s.heap l items)(N:Rw s.heap b items2)(hi:oD items.toList ns)(O:oD items2.toList ms)
  (K:A.units<u4) (h:Q (.bool (lexLt ns ms)) s):eb (e_ prog w) A (j_ .Lt (.ref l) (.ref b)) Q E s:=by
 obtain⟨⟨cls,dd,data,L⟩,T,U,n,hd⟩:=id R;obtain⟨⟨S,W,data2,X⟩,Z,Y,P,hd2⟩:=id N;simp only at U hd Y hd2;subst U hd Y hd2;exact richCompare_meets_room (op:=.Lt) ⟨_,T,rfl⟩ ⟨_,Z,rfl⟩ PySem.F.slot_tuple_lt PySem.F.entry_tuple_lt (PySem.F.args_tuple_lt_2 _ _) (rL l b items items2 n P dd W L X ns ms hi O)
  ⟨T,Z,show t4 (lexLt ns ms)≠Value.notImplemented/\Q (.bool (lexLt ns ms)) s from⟨(fun x=>nomatch x),h⟩⟩ K
theorem cat_tup{vs Z:List aC}{Q:aC->b_->Prop}(I:Rw s.heap t vs.toArray)(H:Rw s.heap b Z.toArray)(N:vs≠[])
  (J:Z=[]->Q (.ref t) s) (K:Z≠[]->Q (.ref s.heap.objs.size) {s with heap:=s.heap.push {cls:=.type "tuple",data:=.seq (vs++Z).toArray}})
  (S:vs.length+Z.length<=sizeLine):eb (e_ prog w) A (t6 .Add (.ref t) (.ref b)) Q E s:=by
 obtain⟨⟨cls,dd,data,L⟩,T,R,n,hd⟩:=id I;obtain⟨⟨O,U,data2,X⟩,Y,W,P,hd2⟩:=id H;simp only at R hd W hd2;subst R hd W hd2;have e:vs.toArray++Z.toArray=(vs++Z).toArray:=by simp
 by_cases hw:Z=[]
 ·exact QO ⟨_,T,rfl⟩ ⟨_,Y,rfl⟩ PQ QA OC Os (Ol _ _)
   (tuple_addW1 t b vs.toArray Z.toArray n P dd U L X (by simpa using N) (by simp[hw])) ⟨T,Y,J hw⟩
 ·refine QO ⟨_,T,rfl⟩ ⟨_,Y,rfl⟩ PQ QA OC Os (Ol _ _)
   (tuple_addW2 t b vs.toArray Z.toArray n P dd U L X (by simpa using N) (by simpa using hw) (by rw[L6,L6];exact S)) ⟨T,Y,?_⟩
  rw[e];exact K hw
def sIx(n d:Nat):Option Int->Nat
 |none=>d
 |some v=>if v<0 then (v+(n:Int)).toNat else min v.toNat n
theorem sIx_none(n d:Nat):sIx n d none=d:=rfl
theorem sIx_nat(n d k:Nat):sIx n d (ar (k:Int))=min k n:=by
 show(if (k:Int)<0 then ((k:Int)+(n:Int)).toNat else min (k:Int).toNat n)=min k n;rw[if_neg (by omega),MB]
theorem GQ(n d:Nat)(Z:d<=n)(o:Option Int):sIx n d o<=n:=by
 cases o with
 |none=>exact Z
 |some v=>
  show(if v<0 then (v+(n:Int)).toNat else min v.toNat n)<=n;by_cases hv:v<0
  ·rw[if_pos hv];omega
  ·rw[if_neg hv];exact Nat.min_le_right _ _
theorem yz(v:Int)(n d:Nat):(if v<0 then max (v+(n:Int)) 0 else min v (n:Int))=((sIx n d (ar v):Nat):Int):=by
 show(if v<0 then max (v+(n:Int)) 0 else min v (n:Int))=(((if v<0 then (v+(n:Int)).toNat else min v.toNat n):Nat):Int);by_cases hv:v<0
 ·simp only[if_pos hv];omega
 ·simp only[if_neg hv];omega
theorem xi(lo hi:Option Int)(n:Nat):u2 lo hi 1 (n:Int)=(((sIx n 0 lo:Nat):Int),((sIx n n hi:Nat):Int)):=by
 have Z:¬ ((1:Int)<0):=by omega
 unfold u2;simp only[Z,if_false];refine OL ?_ ?_
 ·cases lo with
  |none=>rfl
  |some v=>exact yz v n 0
 ·cases hi with
  |none=>rfl
  |some v=>exact yz v n n
theorem xj(i j:Nat):j' (i:Int) (j:Int) 1=j - i:=by
 unfold j';have Z:(1:Int)>0:=by omega
 simp only[Z,if_true,Int.ediv_one];split<;>omega
theorem slicePart_{Q:Option Int->b_->Prop}(p:QG v o)(h:Q o s):eb (e_ prog w) A (Builtin.Slice.slicePartIndex v) Q E s:=by
 cases p with
 |none=>exact slicePart_none h
 |int i t=>exact slicePart_int h
theorem sliceApplied_gen{U:dt}{W X:aC}{lo hi:Option Int}{n:Nat}{Q:Int×Int×Nat->b_->Prop}(hs:s.heap.IsSliceOf U W X .none)(R:QG W lo)(T:QG X hi)
  (h:Q (((sIx n 0 lo:Nat):Int),1,sIx n n hi - sIx n 0 lo) s):eb (e_ prog w) A (t7 (.ref U) (a_ (n:Int))) Q E s:=by
 obtain⟨os,Z,S,Y⟩:=id hs;unfold t7 Builtin.Slice.sliceFields;refine LP (LP (MN Z Y (x:=W) rfl (LP (MN Z Y (x:=X) rfl (LP (MN Z Y (x:=.none) rfl (LS ?_)))))));refine LP (slicePart_none ?_);show eb _ _ (if ((1:Int)==0)=bc then _ else _) _ _ s;rw[if_neg (by decide)]
 refine LP (slicePart_ R (LP (slicePart_ T (LP (LS ?_)))));show eb _ _ (match u2 lo hi 1 (n:Int)with|(lo,hi)=>a_ (lo,(1:Int),j' lo hi 1)) _ _ s
 rw[xi lo hi n];show eb _ _ (a_ (((sIx n 0 lo:Nat):Int),(1:Int),j' ((sIx n 0 lo:Nat):Int) ((sIx n n hi:Nat):Int) 1)) _ _ s;rw[xj];exact LS h
theorem Bz(xs:Array aC)(i k:Nat):((ed k).filterMap fun(m:Nat)=>xs[((i:Int)+(m:Int)*1).toNat]?).toArray=((xs.toList.drop i).take k).toArray:=by
 have e:(fun(m:Nat)=>xs[((i:Int)+(m:Int)*1).toNat]?)=fun m=>xs[i+m]? :=by
  funext m;have:((i:Int)+(m:Int)*1).toNat=i+m:=by omega
  rw[this]
 rw[e];have:=pick_run xs i k;rw[List.filterMap_map]at this;have e2:((fun x=>xs[x]?)∘fun x=>i+x)=fun m=>xs[i+m]? :=rfl;rw[e2]at this;rw[this]
theorem getItem_tuple_cut{t U:dt}{items:Array aC}{R P:aC}{lo hi:Option Int}{Q:aC->b_->Prop}(Y:Rw s.heap t items)(hs:s.heap.IsSliceOf U R P .none)(N:QG R lo)(K:QG P hi)
  (O:¬ (sIx items.size 0 lo=0/\sIx items.size items.size hi=items.size))
  (h:Q (.ref s.heap.objs.size) {s with heap:=s.heap.push {cls:=.type "tuple",data:=.seq ((items.toList.drop (sIx items.size 0 lo)).take (sIx items.size items.size hi - sIx items.size 0 lo)).toArray}})
  (J:items.size<=sizeLine):eb (e_ prog w) A (Qv (.ref t) (.ref U)) Q E s:=by
 have Z:sizeOk (.seq ((items.toList.drop (sIx items.size 0 lo)).take (sIx items.size items.size hi - sIx items.size 0 lo)).toArray):=by
  show((items.toList.drop (sIx items.size 0 lo)).take (sIx items.size items.size hi - sIx items.size 0 lo)).toArray.size<=sizeLine;rw[L6,MK,PR,NG];omega
 have H:sIx items.size items.size hi<=items.size:=GQ _ _ (LU _) hi;obtain⟨os,X,T,L⟩:=id hs;have W:s.TypeIs (.ref U) "slice":=⟨os,X,T⟩;unfold Qv
 try with_reducible refine ME ?_
 first|refine LP (LS ?_)|skip
 refine LP (Pr Y.typeIs (by decide) ?_)
 refine LP (wpAny_callSpecial?_slot (name:=hO "__getitem__") Y.typeIs MP
  (ML MP Y.typeIs O3 ?_ (Pe _ _)))
 show eb _ _ (t8 (.ref t)>>=_) _ _ s;refine LP (QB Y ?_);refine LP (NY W ?_);rw[if_pos (by decide)]
 refine LP (sliceApplied_gen hs N K ?_);have S:¬ ((((sIx items.size 0 lo:Nat):Int)==0 && (1:Int)==1 && (sIx items.size items.size hi - sIx items.size 0 lo)==items.size)=bc):=by
  intro q;rw[MH,MH]at q;have G:((sIx items.size 0 lo:Nat):Int)=0:=Qc q.1.1;have I:sIx items.size items.size hi - sIx items.size 0 lo=items.size:=Qc q.2;exact O ⟨by omega,by omega⟩
 show eb _ _ (if (((sIx items.size 0 lo:Nat):Int)==0 && (1:Int)==1 && (sIx items.size items.size hi - sIx items.size 0 lo)==items.size)=bc then _ else _) _ _ s;rw[if_neg S,Bz];first
  |exact LP (m:=i_ _) (Mw (LS ⟨_,rfl,LS h⟩) Z)
  |exact LP (m:=i_ _) (Mw (LP (LS (LS ⟨_,rfl,LS h⟩))) Z)
  |exact LP (LP (m:=i_ _) (Mw (LS (LS ⟨_,rfl,LS h⟩)) Z))
  |exact LP (LP (m:=i_ _) (Mw (LS ⟨_,rfl,LS h⟩) Z))
end
end HT
namespace L2
open PySem PySem.Spec PyProof.Rows
abbrev TO:=St->Hp->(Option Int->Hp->Prop)->Prop
def PO(X:Cx)(e:Option Expr)(t:TO):Prop:=
 ∀(pins:List (dt×Obj)) (s:b_) (σ:St) (H:Hp) (Q:Option Int->Hp->Prop),Inv X pins σ H s->t σ H Q->
  eb (e_ X.prog X.w) X.A (evalPart e X.env) (fun u s'=>∃o H',Inv X pins σ H' s'/\QG u o/\Q o H') X.xe s
def Ea:TO:=fun _ H Q=>Q none H
def Jc(t:TE):TO:=fun σ H Q=>t σ H fun x H1=>∃i,x= .int i/\Q (ar i) H1
theorem O1{ns:List Int}:∀{us:List aC},bh (ns.map V.int) us->oD us ns:=by
 induction ns with
 |nil=>intro us r;rw[Np]at r;cases r;exact .nil
 | cons n ns ih=>
  intro us r;rw[Mh]at r;cases r with
  |cons r1 r2=>
   obtain⟨t,e⟩:=r1;subst e;exact .cons n t (ih r2)
section
variable {X:Cx}{e:Expr}{te:TE}{lo hi:Option Expr}{tl th:TO}{pos p2:Pos}
theorem Eb:PO X none Ea:=by
 intro pins s σ H Q I h;rw[QC];exact LS ⟨none,H,I,.none,h⟩
theorem yA(h:PE X e te):PO X (ar e) (Jc te):=by
 intro pins s σ H Q I hw;rw[evalPart_some];refine eR (h pins s σ H _ I hw) fun u s1 ⟨x,H1,I1,r1,q1⟩=>?_;obtain⟨i,rfl,q⟩:=q1;obtain⟨t,rfl⟩:=r1;exact⟨ar i,H1,I1,.int i t,q⟩
def FM(X:Cx)(r:V->Option Int->Option Int->Hp->VK->Prop):Prop:=
 ∀(pins:List (dt×Obj)) (s:b_) (σ:St) (H:Hp) (x:V) (v vl vu:aC) (lo hi:Option Int) (sl:dt) (Q:VK),Inv X pins σ H s->RelV x v->s.heap.IsSliceOf sl vl vu .none->QG vl lo->QG vu hi->r x lo hi H Q->
  ∃T id,typeLookup (.type T) "__getitem__"=a_ (ar (.builtin id))/\s.TypeIs v T/\eb (e_ X.prog X.w) X.A (Qv v (.ref sl)) (EP X pins σ Q) X.xe s
theorem FM.or{r Y:V->Option Int->Option Int->Hp->VK->Prop}(h:FM X r)(h':FM X Y):FM X (fun x lo hi H Q=>r x lo hi H Q\/Y x lo hi H Q):=by
 intro pins s σ H x v S T lo hi W Q I U hs Z pu q;rcases q with q|q
 ·exact h pins s σ H x v S T lo hi W Q I U hs Z pu q
 ·exact h' pins s σ H x v S T lo hi W Q I U hs Z pu q
def LA(r:V->Option Int->Option Int->Hp->VK->Prop)(te:TE)(tl th:TO):TE:=fun σ H Q=>te σ H fun x H1=>tl σ H1 fun l H2=>th σ H2 fun u H3=>r x l u H3 Q
theorem BA(P:FM X r)(W:PE X e te)(Y:PO X lo tl)(O:PO X hi th):PE X (.Subscript e (.Slice lo hi none p2) pos) (LA r te tl th):=by
 intro pins s σ H Q I h;refine Rm (eR (W pins s σ H _ I h) fun v s1 ⟨x,H1,I1,r1,q1⟩=>?_);refine wpAny_Slice (eR (Y pins s1 σ H1 _ I1 q1) fun vl s2 ⟨l,H2,I2,pl,q2⟩=>eR (O pins s2 σ H2 _ I2 q2) fun vu s3 ⟨u,H3,I3,pu,q3⟩=>?_);rw[QC];refine LS ?_;have R:Inv X pins σ H3 {s3 with heap:=s3.heap.push {cls:=.type "slice",data:=.fields #[vl,vu,.none]}}:=I3.kept (t':=s3.toks) fun b N q=>LQ _ q;obtain⟨T,id,Z,S,U⟩:=P pins {s3 with heap:=s3.heap.push {cls:=.type "slice",data:=.fields #[vl,vu,.none]}} σ H3 x v vl vu l u s3.heap.objs.size Q R r1 (Heap.IsSliceOf.new ..) pl pu q3;show eb (e_ X.prog X.w) X.A (subscriptTail e (.Slice lo hi none p2) v (.ref s3.heap.objs.size)) (EP X pins σ Q) X.xe {s3 with heap:=s3.heap.push {cls:=.type "slice",data:=.fields #[vl,vu,.none]}};exact RM (ops:=[.ref s3.heap.objs.size,v]) S Z U (by with_unfolding_all rfl)
def rM(xs:List V)(lo hi:Option Int):List V:=(xs.drop (HT.sIx xs.length 0 lo)).take (HT.sIx xs.length xs.length hi - HT.sIx xs.length 0 lo)
theorem oz(xs:List V)(lo hi:Option Int):(rM xs lo hi).length<=xs.length:=by
 unfold rM;rw[MK,PR];omega
def KR(K:dV):V->Option Int->Option Int->Hp->VK->Prop:=fun x lo hi H Q=>∃a xs,x= .ref a/\lD K H a xs/\
 ¬ (HT.sIx xs.length 0 lo=0/\HT.sIx xs.length xs.length hi=xs.length)/\∀p,H p=none->Q (.ref p) (upd H p (.tup (rM xs lo hi)))
theorem GS:FM X (KR X.K):=by
 intro pins s σ H x v R O lo hi P Q I T hs U pu h;obtain⟨a,xs,rfl,W,hw,q⟩:=h;cases T;obtain⟨its,r,Z,Y⟩:=I.tuple W;have hlen:its.toArray.size=xs.length:=by rw[L6];exact r.length.symm
 refine⟨"tuple",_,PyProof.Rows.slot_tuple_getitem.lookup,Z.typeIs,?_⟩;refine HT.getItem_tuple_cut Z hs U pu (by rw[hlen];exact hw) ?_ (by rw[hlen];exact Y)
 rw[hlen];refine⟨.ref s.heap.objs.size,_,I.laid (t':=s.toks) (o:=.tup (rM xs lo hi)) (fun b S q=>LQ _ q) (LU _) ?_,rfl,q _ (I.hok.fresh (LU _))⟩;exact⟨pR (Ma (oz xs lo hi) Y),_,(r.drop (HT.sIx xs.length 0 lo)).take (HT.sIx xs.length xs.length hi - HT.sIx xs.length 0 lo),Qq _ _⟩
def Jd(K:dV):R2:=fun x y H Q=>∃a b ns ms,x= .ref a/\y= .ref b/\lD K H a (ns.map V.int)/\lD K H b (ms.map V.int)/\Q (.bl (HT.lexLt ns ms)) H
theorem xk(P:X.A.units<u4):jF X (j_ .Lt) (Jd X.K):=by
 intro pins s σ H x y v u Q I R Y h;obtain⟨a,b,ns,ms,rfl,rfl,W,U,q⟩:=h;cases R;cases Y;obtain⟨its,S,T,_⟩:=I.tuple W;obtain⟨Z,L,p2,_⟩:=I.tuple U;have N:oD its.toArray.toList ns:=O1 S;have O:oD Z.toArray.toList ms:=O1 L;exact HT.lt_tupInts T p2 N O P ⟨.bl (HT.lexLt ns ms),H,I,rfl,q⟩
def Je(K:dV):R2:=fun x y H Q=>∃a b xs ys,x= .ref a/\y= .ref b/\lD K H a xs/\lD K H b ys/\xs≠[]/\xs.length+ys.length<=sizeLine/\
 (ys=[]->Q (.ref a) H)/\(ys≠[]->∀p,H p=none->Q (.ref p) (upd H p (.tup (xs++ys))))
theorem bh.nil_iff(r:bh xs us):us=[]↔xs=[]:=by
 cases r with
 |nil=>simp
 |cons _ _=>simp
theorem Ec:jF X (t6 .Add) (Je X.K):=by
 intro pins s σ H x y v u Q I L T h;obtain⟨a,b,xs,ys,rfl,rfl,R,O,S,W,J,P⟩:=h;cases L;cases T;obtain⟨its,Y,N,_⟩:=I.tuple R;obtain⟨U,Z,p2,_⟩:=I.tuple O;refine HT.cat_tup N p2 (fun z=>S (Y.nil_iff.mp z)) (fun z=>⟨.ref a,H,I,rfl,J (Z.nil_iff.mp z)⟩) (fun z=>?_) (by rw[<-Y.length, <-Z.length];exact W)
 refine⟨.ref s.heap.objs.size,_,I.laid (t':=s.toks) (o:=.tup (xs++ys)) (fun b G q=>LQ _ q) (LU _) ?_,rfl,P (fun w=>z (Z.nil_iff.mpr w)) _ (I.hok.fresh (LU _))⟩;exact⟨pR (by rw[LW];exact W),_,Y.append Z,Qq _ _⟩
end
end L2
namespace L2
open PySem PySem.Spec PyProof.Rows
def wZ(n:Nat)(i:Int):Option Nat:=if 0<=i then (if i<n then ar i.toNat else none)else if -(n:Int)<=i then ar (i+n).toNat else none
def kd{α:Type}(xs:List α)(i:Int):Option α:=(wZ xs.length i).bind fun j=>xs[j]?
theorem yB(h:wZ n i=ar j):QY i n=ar j/\j<n/\ -(n:Int)<=i/\i<n:=by
 unfold wZ at h;by_cases h0:0<=i
 ·rw[if_pos h0]at h;by_cases h1:i<n
  ·rw[if_pos h1]at h;have e:i.toNat=j:=Mn h;exact⟨by rw[Q5 h0 h1,e],by omega,by omega,h1⟩
  ·rw[if_neg h1]at h;cases h
 ·rw[if_neg h0]at h;by_cases h1: -(n:Int)<=i
  ·rw[if_pos h1]at h;have e:(i+n).toNat=j:=Mn h;exact⟨by rw[seqIndex_neg (by omega) h1,e],by omega,h1,by omega⟩
  ·rw[if_neg h1]at h;cases h
theorem tQ{α:Type}{xs:List α}{i:Int}{v:α}(h:kd xs i=ar v):∃j,QY i xs.length=ar j/\xs[j]? =ar v/\j<xs.length/\ -(xs.length:Int)<=i/\i<xs.length:=by
 unfold kd at h;cases e:wZ xs.length i with
 |none=>rw[e]at h;cases h
 |some j=>
  rw[e]at h;obtain⟨Y,Z,W,X⟩:=yB e;exact⟨j,Y,h,Z,W,X⟩
def tR(b:Expr):Prop:=∀o i,subscripted b c_ o i=operate [o,i] (Qv o i)
def DQ(X:Cx)(r:R2):Prop:=
 ∀(value slice:Expr) (pins:List (dt×Obj)) (s:b_) (σ:St) (H:Hp) (x y:V) (v u:aC) (Q:VK),Inv X pins σ H s->RelV x v->RelV y u->r x y H Q->
  subscripted slice c_ v u=operate [v,u] (Qv v u)->eb (e_ X.prog X.w) X.A (subscriptTail value slice v u) (EP X pins σ Q) X.xe s
def J9(X:Cx)(id:String)(r:V->List V->Hp->VK->Prop):Prop:=
 ∀(pins:List (dt×Obj)) (s:b_) (σ:St) (H:Hp) (x:V) (xs:List V) (v:aC) (us:List aC) (Q:VK),Inv X pins σ H s->RelV x v->bh xs us->r x xs H Q->
  eb (e_ X.prog X.w) X.A (call (.builtin id) (v::us)) (EP X pins σ Q) X.xe s
section
variable {X:Cx}{a b:Expr}{ta tb:TE}{pos:Pos}
theorem DQ.or{r Y:R2}(h:DQ X r)(h':DQ X Y):DQ X (fun x y H Q=>r x y H Q\/Y x y H Q):=by
 intro value slice pins s σ H x y v u Q I W Z q hs;rcases q with q|q
 ·exact h value slice pins s σ H x y v u Q I W Z q hs
 ·exact h' value slice pins s σ H x y v u Q I W Z q hs
theorem Jf(R:DQ X r)(Y:PE X a ta)(T:PE X b tb)(hs:tR b):PE X (.Subscript a b pos) (IW r ta tb):=by
 intro pins s σ H Q I h;exact Rm (GF Y T I h fun v u s2 x y U W S Z q=>R a b pins s2 σ U x y v u Q W S Z q (hs _ _))
def Jg(K:dV):R2:=fun x y H Q=>∃p xs i v,x= .ref p/\y= .int i/\kg K H p xs/\kd xs i=ar v/\Q v H
def Jh(K:dV):R2:=fun x y H Q=>∃p xs i v,x= .ref p/\y= .int i/\lD K H p xs/\kd xs i=ar v/\Q v H
def Ji:R2:=fun x y H Q=>∃z i c,x= .str z/\y= .int i/\z.length<=sizeLine/\kd z.cps.toList i=ar c/\Q (.str ⟨#[c]⟩) H
theorem Ed:DQ X (Jg X.K):=by
 intro value slice pins s σ H x y v u Q I J P h hs;obtain⟨p,xs,i,z,rfl,rfl,N,he,q⟩:=h;cases J;obtain⟨t,rfl⟩:=P;obtain⟨its,r,Y,F⟩:=I.list N;obtain⟨j,Z,S,G,L,O⟩:=tQ he;obtain⟨w,T,U⟩:=r.get S;have R:=r.length;have E:=pW;have fin:EP X pins σ Q w s:=⟨z,H,I,U,q⟩;by_cases h0:0<=i
 ·have W:i.toNat=j:=by
   rw[Q5 h0 O]at Z;exact Mn Z
  exact item_listR Y.isList h0 (by omega) (by rw[W];simpa using T) fin hs
 ·have W:(i+(its.toArray.size:Int)).toNat=j:=by
   rw[seqIndex_neg (by omega) L]at Z
   rw[L6, <-R];exact Mn Z
  exact subscriptTail_builtinR (x:=w) Y.isList.typeIs slot_list_getitem.lookup
   (wpAny_getItem_list_neg (Q:=fun r s'=>r=w/\EP X pins σ Q r s') Y.isList (by omega) (by rw[L6]<;>omega) (by omega) (by rw[W];simpa using T) ⟨rfl,fin⟩) hs
theorem GT:DQ X (Jh X.K):=by
 intro value slice pins s σ H x y v u Q I O T h hs;obtain⟨p,xs,i,z,rfl,rfl,S,he,q⟩:=h;cases O;obtain⟨t,rfl⟩:=T;obtain⟨its,r,Y,G⟩:=I.tuple S;obtain⟨j,R,W,L,J,N⟩:=tQ he;obtain⟨w,P,Z⟩:=r.get W;have U:=r.length;have F:=pW;have fin:EP X pins σ Q w s:=⟨z,H,I,Z,q⟩;exact subscriptTail_builtinR (x:=w) Y.typeIs slot_tuple_getitem.lookup
  (getItem_tuple (j:=j) (Q:=fun r s'=>r=w/\EP X pins σ Q r s') Y (by omega) (by omega) (by rw[L6, <-U];exact R) (by simpa using P) ⟨rfl,fin⟩) hs
theorem GU:DQ X Ji:=by
 intro value slice pins s σ H x y v u Q I R U h hs;obtain⟨z,i,c,rfl,rfl,P,he,q⟩:=h;obtain⟨t,rfl⟩:=R;obtain⟨t',rfl⟩:=U;obtain⟨j,Z,Y,N,S,T⟩:=tQ he;have W:z.cps.toList.length=z.length:=by simp[Str.length]
 rw[W]at Z S T;have O:=pW;exact RM (typeIs_str s z t) slot_str_getitem.lookup (getItem_str (c:=c) (by
  have e1:decide (i< -(2 ^ 63:Int))=false:=Mj (by omega)
  have e2:decide (i ≥ 2 ^ 63)=false:=Mj (by omega)
  rw[e1,e2,Bool.or_false]) (by rw[Z];simpa using Y) ⟨.str ⟨#[c]⟩,H,I.tok _,⟨_,rfl⟩,q⟩) hs
def Ll(K:dV):R2:=fun x y H Q=>Jg K x y H Q\/Jh K x y H Q\/Ji x y H Q
theorem GV:DQ X (Ll X.K):=Ed.or (GT.or GU)
theorem xm(its:List aC)(n j:Nat)(u:aC):nC (·.setIfInBounds j u) {cls:=.type "list",data:=.seq its.toArray n}={cls:=.type "list",data:=.seq (its.set j u).toArray n}:=by
 simp[nC]
theorem Inv.lst{Z:List (dt×Obj)}{Y:St}{H:Hp}{s:b_}{p:dt}{xs:List V}(I:Inv X Z Y H s)(h:H p=ar (.lst xs)):
  ∃(its:List aC) (n:Nat),bh xs its/\s.heap.get? p=ar {cls:=.type "list",data:=.seq its.toArray n}/\xs.length<=sizeLine:=by
 obtain⟨z,its,n,r,e⟩:=I.hok p _ h;exact⟨its,n,r,e,z⟩
theorem Inv.lstUpd{H:Hp}{its its':List aC}{f:Obj->Obj}(I:Inv X pins σ H s)(h:H p=ar (.lst xs))
  (U:s.heap.get? p=ar {cls:=.type "list",data:=.seq its.toArray n}) (Z:f {cls:=.type "list",data:=.seq its.toArray n}={cls:=.type "list",data:=.seq its'.toArray n'}) (r:bh ys its') (W:ys.length<=sizeLine) (t:Nat):
  Inv X pins σ (upd H p (.lst ys)) {s with heap:=s.heap.update p f,toks:=t}:=by
 have e:(s.heap.update p f).get? p=ar {cls:=.type "list",data:=.seq its'.toArray n'}:=by
  rw[MS f U (by rw[Z]<;>rfl),Z]
 refine I.write (x:=p) (e:=p) (by rw[h];trivial) (.inl rfl) (fun b u Y q=>(MF _ _ (kr Y)).trans q) ⟨_,e⟩ ?_
 exact⟨W,its',n',r,e⟩
def FN:V->V->V->Hp->(Hp->Prop)->Prop:=fun o i v H Q=>∃p xs k j,o= .ref p/\i= .int k/\H p=ar (.lst xs)/\wZ xs.length k=ar j/\Q (upd H p (.lst (xs.set j v)))
theorem set_list:IQ X FN:=by
 intro pins s σ H o i v E B u Q I J N K h;obtain⟨p,xs,k,j,rfl,rfl,P,L,q⟩:=h;cases J;obtain⟨t,rfl⟩:=N;obtain⟨its,n,r,T,G⟩:=I.lst P;obtain⟨Z,F,S,R⟩:=yB L;have Y:=r.length;have C:=pW;have O:Inv X pins σ (upd H p (.lst (xs.set j v))) {s with heap:=s.heap.update p (nC (·.setIfInBounds j u))}:=
  I.lstUpd P T (xm its n j u) (r.set K j) (by rw[M9];exact G) s.toks
 by_cases h0:0<=k
 ·have U:k.toNat=j:=by
   rw[Q5 h0 R]at Z;exact Mn Z
  exact W.ki_setAt T h0 (by omega) (by rw[L6, <-Y];exact R) (by rw[U];exact⟨_,O,q⟩)
 ·have U:(k+(its.toArray.size:Int)).toNat=j:=by
   rw[seqIndex_neg (by omega) S]at Z
   rw[L6, <-Y];exact Mn Z
  exact W.ki_setBack T (by omega) (by rw[L6, <-Y];exact S) (by omega) (by rw[U];exact⟨_,O,q⟩)
theorem tS(lo hi:Option Int)(n:Nat):(wd lo hi none n).1=((HT.sIx n 0 lo:Nat):Int)/\(wd lo hi none n).2.1=((HT.sIx n n hi:Nat):Int)/\(wd lo hi none n).2.2=1:=by
 refine⟨?_,?_,rfl⟩
 ·cases lo with
  |none=>simp[wd,HT.sIx]
  |some i=>
   simp only[wd,HT.sIx,Option.getD_none,show(1:Int)>0 by decide,if_true]
   by_cases h:i<0
   ·simp only[h,if_true]<;>omega
   ·simp only[h,if_false]<;>omega
 ·cases hi with
  |none=>simp[wd,HT.sIx]
  |some i=>
   simp only[wd,HT.sIx,Option.getD_none,show(1:Int)>0 by decide,if_true]
   by_cases h:i<0
   ·simp only[h,if_true]<;>omega
   ·simp only[h,if_false]<;>omega
theorem rN(its:List aC)(lo hi:Option Int):slicePick its.toArray lo hi none=((its.drop (HT.sIx its.length 0 lo)).take (HT.sIx its.length its.length hi - HT.sIx its.length 0 lo)).toArray:=by
 obtain⟨Y,Z,W⟩:=tS lo hi its.toArray.size;unfold slicePick;rw[Y,Z,W];simp only[sliceRange_one,pick_run,m2]<;>rfl
def KS(K:dV):V->Option Int->Option Int->Hp->VK->Prop:=fun x lo hi H Q=>∃a xs,x= .ref a/\kg K H a xs/\∀p,H p=none->Q (.ref p) (upd H p (.lst (rM xs lo hi)))
theorem Ee:FM X (KS X.K):=by
 intro pins s σ H x v R O lo hi P Q I T hs W pu h;obtain⟨a,xs,rfl,Y,q⟩:=h;cases T;obtain⟨its,r,Z,U⟩:=I.list Y;have hlen:=r.length;refine⟨"list",_,slot_list_getitem.lookup,Z.isList.typeIs,?_⟩;refine wpAny_getItem_list_slice Z.isList hs W pu .none (by simp) ?_ (by rw[L6]<;>omega)
 rw[rN, <-hlen];refine⟨.ref s.heap.objs.size,_,I.laid (t':=s.toks) (o:=.lst (rM xs lo hi)) (fun b S q=>LQ _ q) (LU _) ?_,rfl,q _ (I.hok.fresh (LU _))⟩;exact⟨Ma (oz xs lo hi) U,_,0,(r.drop (HT.sIx xs.length 0 lo)).take (HT.sIx xs.length xs.length hi - HT.sIx xs.length 0 lo),L3 _ rfl⟩
theorem tT:dX X (.builtin "len") (fun xs H Q=>∃p ys,xs=[.ref p]/\(kg X.K H p ys\/lD X.K H p ys)/\Q (.int ys.length) H):=by
 intro pins s σ H xs us Q I r h;obtain⟨p,ys,rfl,Z,q⟩:=h;obtain⟨u,rfl,T⟩:=vals1 r;cases T;have S:=pW;rcases Z with Z|Z
 ·obtain⟨its,W,Y,U⟩:=I.list Z;have hlen:=W.length;exact Calls.call_len_list Y.isList (by simp only[m2]<;>omega) ⟨.int ys.length,H,I.tok _,⟨s.toks+1,by rw[L6,hlen]⟩,q⟩
 ·obtain⟨its,W,Y,U⟩:=I.tuple Z;have hlen:=W.length;exact len_tuple Y (by simp only[m2]<;>omega) ⟨.int ys.length,H,I.tok _,⟨s.toks+1,by rw[L6,hlen]⟩,q⟩
theorem dX.or{r Z:List V->Hp->VK->Prop}(h:dX X f r)(h':dX X f Z):dX X f (fun xs H Q=>r xs H Q\/Z xs H Q):=by
 intro pins s σ H xs us Q I rs q;rcases q with q|q
 ·exact h pins s σ H xs us Q I rs q
 ·exact h' pins s σ H xs us Q I rs q
theorem tU:dX X (.type "list") (fun xs H Q=>∃p ys,xs=[.ref p]/\(kg X.K H p ys\/lD X.K H p ys)/\∀l,H l=none->Q (.ref l) (upd H l (.lst ys))):=by
 intro pins s σ H xs us Q I r h;obtain⟨p,ys,rfl,W,q⟩:=h;obtain⟨u,rfl,O⟩:=vals1 r;cases O;have fin:∀(its:List aC),bh ys its->ys.length<=sizeLine->∀(h':fg) (Z:Nat),(∀b o',s.heap.get? b=ar o'->h'.get? b=ar o')->
   h'.get? s.heap.objs.size=ar {cls:=.type "list",dict:=none,data:=.seq its.toArray Z,slots:= #[]}->EP X pins σ Q (.ref s.heap.objs.size) {s with heap:=h'}:=fun its Y U h' Z T e=>
  ⟨.ref s.heap.objs.size,_,I.laid (t':=s.toks) T (LU _) (show bo X.prog X.w _ h' _ (.lst ys)from⟨U,its,Z,Y,e⟩),rfl,q _ (I.hok.fresh (LU _))⟩
 rcases W with W|W
 ·obtain⟨its,Y,P,U⟩:=I.list W;have hlen:=Y.length;obtain⟨o,R,S,n,hd⟩:=P.isList;exact call_list_seq p (.inl rfl) R S hd (fun h' Z T e=>fin its Y U h' Z T e) (by simp only[m2]<;>omega)
 ·obtain⟨its,Y,P,U⟩:=I.tuple W;have hlen:=Y.length;obtain⟨o,R,S,n,hd⟩:=P;exact call_list_seq p (.inr rfl) R S hd (fun h' Z T e=>fin its Y U h' Z T e) (by simp only[m2]<;>omega)
theorem rO:dX X (.type "tuple") (fun xs H Q=>∃p ys,xs=[.ref p]/\((kg X.K H p ys/\∀l,H l=none->Q (.ref l) (upd H l (.tup ys)))\/(lD X.K H p ys/\Q (.ref p) H))):=by
 intro pins s σ H xs us Q I r h;obtain⟨p,ys,rfl,h⟩:=h;obtain⟨u,rfl,S⟩:=vals1 r;cases S;rcases h with⟨hq,q⟩|⟨hq,q⟩
 ·obtain⟨its,Y,Z,U⟩:=I.list hq;have hlen:=Y.length;refine call_tuple_list Z.isList (fun h' R=>?_) (by simp only[m2]<;>omega)
  have W:Inv X pins σ H {s with heap:=h'}:=I.kept (t':=s.toks) R;have T:Inv X pins σ (upd H h'.objs.size (.tup ys)) {s with heap:=h'.push {cls:=.type "tuple",data:=.seq its.toArray}}:=
   W.laid (t':=s.toks) (fun b o e=>LQ _ e) (LU _) (show bo X.prog X.w _ _ _ (.tup ys)from⟨pR U,its,Y,Qq _ _⟩)
  exact⟨.ref h'.objs.size,_,T,rfl,q _ (W.hok.fresh (LU _))⟩
 ·obtain⟨its,Y,Z,U⟩:=I.tuple hq;exact call_tuple_same Z ⟨.ref p,H,I,rfl,q⟩
def KU(K:dV)(T:String)(x:V)(H:Hp):Prop:=match x with
 | .str _=>T="str"
 | .int _=>T="int"
 | .ref p=>(T="list"/\∃xs,kg K H p xs)\/(T="tuple"/\∃xs,H p=ar (.tup xs))\/
   (T="dict"/\((∃kvs,H p=ar (.dK kvs))\/∃kvs,H p=ar (.dT kvs)))\/(T="set"/\∃S n,H p=ar (.set S n))
 |_=>False
theorem GW(I:Inv X pins σ H s)(r:RelV x v)(Z:KU X.K T x H):
  s.TypeIs v T/\∀a,v= .ref a->∃ob,s.heap.get? a=ar ob/\ob.dict=none:=by
 cases x with
 |str z=>
  obtain⟨t,rfl⟩:=r;cases (show T="str" from Z);exact⟨typeIs_str s z t,fun _ e=>nomatch e⟩
 |int i=>
  obtain⟨t,rfl⟩:=r;cases (show T="int" from Z);exact⟨typeIs_int s i t,fun _ e=>nomatch e⟩
 | ref p=>
  cases r;rcases Z with⟨rfl,xs,hq⟩|⟨rfl,xs,hk⟩|⟨rfl,hk⟩|⟨rfl,S,n,hk⟩
  ·obtain⟨its,_,Y,_⟩:=I.list hq;refine⟨Y.isList.typeIs,fun a e=>?_⟩;cases e;obtain⟨o,n,e,c,hd,_⟩:=Y;exact⟨o,e,hd⟩
  ·obtain⟨⟨_,o,e,hd⟩,its,_,pt⟩:=(show bo X.prog X.w H s.heap p (.tup xs)from I.hok p _ hk);refine⟨pt.typeIs,fun a e2=>?_⟩;cases e2;exact⟨o,e,hd⟩
  ·have z:∃o,s.heap.get? p=ar o/\o.ExactDict:=by
    rcases hk with⟨kvs,hk⟩|⟨kvs,hk⟩
    ·obtain⟨_,_,_,_,o,_,_,e,ex,_⟩:=I.hok p _ hk;exact⟨o,e,ex⟩
    ·obtain⟨_,_,_,_,o,_,_,e,ex,_⟩:=I.hok p _ hk;exact⟨o,e,ex⟩
   obtain⟨o,e,ex⟩:=z;refine⟨⟨o,e,ex.1⟩,fun a e2=>?_⟩;cases e2;exact⟨o,e,ex.2.1⟩
  ·obtain⟨o,_,_,_,e,ex,_⟩:=I.hok p _ hk;refine⟨⟨o,e,ex.1⟩,fun a e2=>?_⟩;cases e2;exact⟨o,e,ex.2.1⟩
 |_=>exact g_ Z
def LB(K:dV)(T:String)(r:V->List V->Hp->VK->Prop)(to:TE)(t:TA):TE:=fun σ H Q=>to σ H fun x H1=>KU K T x H1/\t σ H1 fun xs H2=>r x xs H2 Q
variable {o e:Expr}{es:List Expr}{to:TE}{t:TA}{name:Str}{apos cpos:Pos}{T id:String}{r:V->List V->Hp->VK->Prop}
theorem FO(G:PlainAttrs T)(S:Slot T name id)(R:typeOf (.builtin id)=a_ (.type "method_descriptor"))(F:J9 X id r)(L:PE X o to)(N:PA X (e::es) t)
  (W:n3 o name X.env (gg o X.env)=gg o X.env:=by rfl)
  (U:((pa cpos (d_ (e::es) X.env)).all (fun x=> !x.1) && (backToKw cpos (keywordEach [] X.env)).all (fun x=>x.1.isSome)
   && decide ((e::es).length+([]:List Rc).length+(if ([]:List Rc).isEmpty then 0 else 1)<30))=true:=by rfl)
  (Y:(apos.endLine==cpos.line)=true:=by rfl) (hs:d_ (e::es) X.env=(c_,gg e X.env)::d_ es X.env:=by rfl) (Z:(pa cpos (d_ es X.env)).any (·.1)=false:=by rfl):
  PE X (.Call (.Attribute o name apos) (e::es) [] cpos) (LB X.K T r to t):=by
 intro pins s σ H Q I h;refine wpAny_Call_method_late W U Y rfl (eR (L pins s σ H _ I h) fun v s1 ⟨x,H1,I1,r1,ty,q1⟩=>?_);obtain⟨J,O⟩:=GW I1 r1 ty;refine⟨T,id,G,S,R,J,O,?_⟩;have P:=N cpos pins s1 σ H1 _ I1 q1;rw[hs]at P⊢;refine Calls.callWith_builtin (by show(c_||(pa cpos (d_ es X.env)).any (·.1))=c_;rw[Z]<;>rfl) (OU ?_)
 exact eR P fun us s2 ⟨vs,H2,I2,r2,q2⟩=>F pins s2 σ H2 x vs v us Q I2 r1 r2 q2
end
end L2
namespace L2
open PySem PySem.Spec PyProof.Rows
def Lm(X:Cx)(id:String)(r:V->List V->Hp->VK->Prop):Prop:=
 ∀(pins:List (dt×Obj)) (s:b_) (σ:St) (H:Hp) (x:V) (xs:List V) (v:aC) (us:List aC) (Q:VK),Inv X pins σ H s->RelV x v->bh xs us->r x xs H Q->
  eb (e_ X.prog X.w) X.A (call (.builtin id) (v::us)) (EP X pins σ Q) X.xe s
theorem bh.one:∀{x:V} {us:List aC},bh [x] us->∃u,us=[u]/\RelV x u
 |_,_,.cons r .nil=>⟨_,rfl,r⟩
theorem bh.eraseIdx:∀{xs:List V} {us:List aC} (i:Nat),bh xs us->bh (xs.eraseIdx i) (us.eraseIdx i)
 |_,_,_,.nil=>.nil
 |_,_,0,.cons _ t=>t
 |_,_,i+1,.cons r t=>.cons r (bh.eraseIdx i t)
theorem bh.reverse(h:bh xs us):bh xs.reverse us.reverse:=by
 induction h with
 |nil=>exact .nil
 |cons r t ih=>rw[OH,OH];exact bh.append ih (.cons r .nil)
theorem sx{α:Type}:∀(l:List α) (i:Nat),(l.eraseIdx i).length<=l.length
 |[],_=>LU _
 |_::_,0=>Oh _
 |_::r,i+1=>Oe (sx r i)
section
variable {X:Cx}{pins:List (dt×Obj)}{σ:St}{H:Hp}{s:b_}{l b:dt}{xs ys zs:List V}
theorem Inv.lset{its its':List aC}{f:Array aC->Array aC}(I:Inv X pins σ H s)(Y:H l=ar (.lst xs))
  (e:s.heap.get? l=ar {cls:=.type "list",data:=.seq its.toArray n}) (S:f its.toArray=its'.toArray) (U:bh ys its') (W:ys.length<=sizeLine):
  Inv X pins σ (upd H l (.lst ys)) {s with heap:=s.heap.update l (nC f),toks:=t'}:=by
 have q:=PySem.IsL.update e f;rw[S]at q;refine I.write (x:=l) (e:=l) (by rw[Y];exact trivial) (.inl rfl) (fun R u Z T=>(MF s.heap (nC f) (kr Z)).trans T) ⟨_,q⟩ ?_
 exact⟨W,its',_,U,q⟩
theorem Inv.lnew(I:Inv X pins σ H s)(Z:bh ys its)(Y:ys.length<=sizeLine):
  Inv X pins σ (upd H s.heap.objs.size (.lst ys)) {s with heap:=s.heap.push {cls:=.type "list",data:=.seq its.toArray},toks:=t'}:=
 I.laid (fun _ _ q=>LQ _ q) (LU _) ⟨Y,its,0,Z,L3 _ rfl⟩
theorem Inv.fresh(I:Inv X pins σ H s):H s.heap.objs.size=none:=I.hok.fresh (LU _)
theorem Inv.lstM(I:Inv X pins σ H s)(Z:H l=ar (.lst xs)):xs.length<=sizeLine/\∃(its:List aC) (n:Nat),bh xs its/\xs.length=its.length/\s.heap.get? l=ar {cls:=.type "list",data:=.seq its.toArray n}:=by
 obtain⟨z,its,n,r,e⟩:=I.hok l _ Z;exact⟨z,its,n,r,r.length,e⟩
theorem BB(h:n<=sizeLine):u5 n=false:=by
 unfold u5;exact Mj (by omega)
end
section
variable {X:Cx}
def yC:V->List V->Hp->VK->Prop:=fun x vs H Q=>∃l xs y,x= .ref l/\vs=[y]/\H l=ar (.lst xs)/\xs.length<sizeLine/\Q .non (upd H l (.lst (xs++[y])))
theorem sy:Lm X "list.append" yC:=by
 intro pins s σ H x vs v us Q I U W h;obtain⟨l,xs,y,rfl,rfl,Z,S,q⟩:=h;cases U;obtain⟨u,rfl,Y⟩:=W.one;obtain⟨z,its,n,r,T,e⟩:=I.lstM Z;refine Qh F.slot_list_append ⟨_,e,rfl⟩ F.entry_list_append (F.args_list_append_2 _ _) (PySem.list_append l its.toArray n u (by rw[L6];omega)) ⟨e,?_⟩
 refine⟨.non,_,I.lset (its':=its++[u]) Z e (by simp) (r.append (.cons Y .nil)) ?_,rfl,q⟩
 rw[LW,OO];omega
def BC:V->List V->Hp->VK->Prop:=fun x vs H Q=>∃l xs i k y,x= .ref l/\vs=[.int i]/\H l=ar (.lst xs)/\ -(2 ^ 63)<=i/\i<2 ^ 63/\QY i xs.length=ar k/\xs[k]? =ar y/\Q y (upd H l (.lst (xs.eraseIdx k)))
theorem BD:Lm X "list.pop" BC:=by
 intro pins s σ H x vs v us Q I N O h;obtain⟨l,xs,i,k,y,rfl,rfl,Y,R,W,S,U,q⟩:=h;cases N;obtain⟨u,rfl,P⟩:=O.one;obtain⟨t,rfl⟩:=P;obtain⟨z,its,n,r,T,e⟩:=I.lstM Y;obtain⟨w,hw,Z⟩:=r.get U;refine Qh F.slot_list_pop ⟨_,e,rfl⟩ F.entry_list_pop (F.args_list_pop_2 _ _)
  (MeetsSeq.list_pop_at l its.toArray n i t k w (fitsIndex_both R W) (by rw[L6, <-T];exact S) (by rw[<-Mq];exact hw) (by rw[L6];omega)) ⟨e,?_⟩
 refine⟨y,_,I.lset (its':=its.eraseIdx k) Y e ?_ (r.eraseIdx k) ?_,Z,q⟩
 ·show its.toArray.eraseIdxIfInBounds k=(its.eraseIdx k).toArray;rw[List.eraseIdxIfInBounds_toArray]
 ·have:=sx xs k;omega
end
section
variable {prog:ee}{w:eM}{A:gd}{E:aC->b_->Prop}{s:b_}
end
section
variable {X:Cx}
end
end L2
namespace Att
open PySem PySem.W PySem.Calls PyProof.Rows
theorem oZ:∀(ns:List Int) (vs:List aC),WellAll P h vs (ns.map WData.int)->oD vs ns:=by
 intro ns
 induction ns with
 |nil=>
  intro vs w;rw[Np]at w;cases w;exact .nil
 | cons n ns ih=>
  intro vs w;rw[Mh]at w;cases w with
  |cons a b=>
   cases a;exact .cons _ _ (ih _ b)
theorem Ae{l:R5}(Q:l.most=ar n)
  (Z:l.row.toRowW.claim.pre args=bc) (W:WellAll P h vals args):
  ∃a vs ns,vals=[er a]/\args=[WData.list (ns.map WData.int)]/\h.get? a=ar {cls:=.type "list",data:=.seq vs.toArray}/\oD vs ns/\ns.length<=n:=by
 have iY:WShape.hasAll [] args [.list .int]=true:=(pre_splitW Z).1;have U:l.pre.holds [] {args:=args}=true:=(pre_splitW Z).2;obtain⟨d,r,rfl,S,T⟩:=hasAllW_cons iY;obtain rfl:=hasAllW_nil T;obtain⟨xs,rfl,O⟩:=hasW_list S;obtain⟨ns,rfl⟩:=items_int O;have hlen:ns.length<=n:=by
  unfold OpenLaw.pre at U;have X:(WTm.not (.lt (.lit (.int (n:Int))) (.len (.arg 0)))).holds [] {args:=[.list (ns.map .int)]}=true:=by
   have X:=(holds_andW U).1;rw[Q]at X;exact X
  have Y:=condW_of X (w_not (w_lt w_lit (w_len_list (w_arg rfl))));rw[LR]at Y;refine PU fun q=>?_;have R:(n:Int)<((ns.length:Nat):Int):=by omega
  first
   |(rw[L8 R]at Y;exact absurd Y (by decide))
   |(simp at Y;omega)
 cases W with
 |cons w1 w2=>
  cases w2;cases w1 with
  |list ho hall=>exact⟨_,_,ns,rfl,rfl,ho,oZ ns _ hall,hlen⟩
theorem Af(l:R5)(args:List WData):l.row.toRowW.claim.post args (.bool bc) args=true:=
 postW_of (r:=l.row.toRowW) (X:=(bc==bc))
  (show WShape.has [] (.bool bc) .bool=bc by first|rfl|decide|simp[WShape.has,WShape.arms,WShape.armsAll])
  (show(WTm.eq .res (.lit (.bool bc))).value [] {args:=args,res:=ar (.bool bc),after:=args}=ar (.bool (bc==bc))from w_eq_bool (w_res rfl) w_lit) rfl
theorem attach_call{l:R5}{YP:eM->fg->Prop}{d:RX}
  (y:l.most=ar n) (Q:d.params.defaults=[])
  (U:∀(w:eM) (s₀ Z:b_) (S N:Str->Option aC) (T:dt) (o:Obj) (pm cd doc:aC) (a:dt) (vs:List aC) (ns:List Int),
   Ground q loose [] XP w s₀ S N Z.heap->YP w Z.heap->
   Z.heap.get? T=ar o->o.data= .func (docDef d.name d.params d.body d.scope pm cd doc)->Z.heap.CodeRec cd d.name->S d.name=ar (.ref T)->
   Z.heap.get? a=ar {cls:=.type "list",data:=.seq vs.toArray}->oD vs ns->ns.length<=n->Z.gens= #[]->
   B_ (e_ l.prog w) w7 (.call (.ref T) ⟨[.ref a],[]⟩) (fun r s'=>r= .ok (.ret (.bool bc))/\OldK Z.heap s'.heap/\s'.os=Z.os/\y4 s'.gens) Z):
  WalkO q loose XP YP l.row.toRowW d [] (fun f vs=>PySem.call f vs):=by
 intro w s₀ Z S N G Y T o pm cd doc z kV B hd O K R I args vals as X L F P E;obtain rfl:z= .none:=Dflts.none K Q;obtain rfl:kV= .none:=Dflts.noKw K;obtain⟨a,vs,ns,rfl,rfl,W,hints,hlen⟩:=Ae y X P;refine enter_call (NC (U w s₀ Z S N T o pm cd doc a vs ns G Y B (fd_plain hd) O R W hints hlen I) fun r s' C=>?_);obtain⟨rfl,J,H,A⟩:=C;exact⟨.inl ⟨.bool bc,.bool bc,[],rfl,fun _=>rfl,.bool bc,Af l _,fun _=>⟨List.Pairwise.nil,fun _ hm=>(nomatch hm)⟩⟩,J,H,A⟩
section
variable {prog:ee}{w:eM}{A:gd}{E:aC->b_->Prop}{s:b_}{K:Sd}
def ledger(h:fg)(L d:dt):List (dt×Obj):=(ed h.objs.size).filterMap fun a=>if a=L\/a=d then none else (h.get? a).map fun o=>(a,o)
end
end Att
namespace L2
open PySem PySem.Spec PyProof.Rows
theorem ju:∀{vs:List aC} {ns:List Int},oD vs ns->bh (ns.map V.int) vs
 |_,_,.nil=>.nil
 |_,_,.cons n t h=>.cons ⟨t,rfl⟩ (ju h)
def GX(H:Hp):Prop:=∀b,H b=none\/∃o xs,H b=ar (.frz o (.lst xs))
theorem BE{K:dV}{A:Str->Option aC}{g:Be}{sp:Sp}{Z:b_}{vs:List aC}
  (j:K.In Z.heap) (R:Z.heap.Ns f' mg) (X:Z.heap.Ns v_ A) (y:∀x:Str,x≠"__name__"->A x=lx x) (O:Z.heap.NoLimit) (c:Z.gens= #[])
  (I:Z.heap.get? a=ar {cls:=.type "list",data:=.seq vs.toArray}) (hi:oD vs ns) (t:ns.length<=sizeLine) (hr:Room k w7)
  (F:∀base:fg,K.In base->base.Ns f' mg->FnOk P w K mg base g k fa fd [x] sp) (T:∀(s:b_) (u:aC),GB s fd ⟨[u],[]⟩ [(x,u)])
  (B:∀H:Hp,GX H->kg K H a (ns.map V.int)->sp [.ref a] H (fun v _=>v= .bl bc) fun _ _ _=>False)
  (E:∀H e s',g [] H Z (fun _ _ _=>False) e s'->False):
  B_ (e_ P w) w7 (.call (.ref fa) ⟨[.ref a],[]⟩) (fun r s'=>r= .ok (.ret (.bool bc))/\OldK Z.heap s'.heap/\s'.os=Z.os/\y4 s'.gens) Z:=by
 have p:=ju hi;have L:=hi.length;have core:∀H:Hp,GX H->kg K H a (ns.map V.int)->gR P w H Z.heap->(∀b,H b≠none->b=a)->(H a≠none->K.lookup a=none)->
   B_ (e_ P w) w7 (.call (.ref fa) ⟨[.ref a],[]⟩) (fun r s'=>r= .ok (.ret (.bool bc))/\OldK Z.heap s'.heap/\s'.os=Z.os/\y4 s'.gens) Z:=by
  intro H l hS Q i hK;have Y:∀{b:dt} {o:Obj},Z.heap.get? b=ar o->H b=none->(lu Z.heap H).get? b=ar o:=fun e n=>mx e n;have G:∀{b:dt} {o:Obj} {es:Array DictEntry} {ep:Nat},Z.heap.get? b=ar o->o.data= .dict es ep->H b=none:=fun{b o es ep} e d=>by
   cases q:H b with
   |none=>rfl
   |some u=>
    have C:b=a:=i b (by rw[q];simp)
    subst C;rw[I]at e;cases e;have d':Data.seq vs.toArray _=Data.dict es ep:=d;cases d'
  have U:∀{b:dt} {m:Str->Option aC},Z.heap.Ns b m->(lu Z.heap H).Ns b m:=fun{b m} ⟨o,es,ep,e,d,r⟩=>⟨o,es,ep,Y e (G e d),d,r⟩;have J:K.In (lu Z.heap H):=fun b o e=>Y (j b o e) (by
   cases q:H b with
   |none=>rfl
   |some u=>
    have C:b=a:=i b (by rw[q];simp)
    subst C;rw[hK (by rw[q];simp)]at e;cases e)
  have hM:Mod K mg (lu Z.heap H):=⟨J,U R,⟨A,U X,y⟩,let ⟨mc,h1,h2⟩:=O;⟨mc,U h1,h2⟩⟩;have e0:aQ P w K mg (lu Z.heap H) w7 [] Z H:=⟨rfl,hM,fun b o e=>tL e,Om (nG _ _),trivial,fun b X=>absurd (show b∈([]:List dt)from X) (by simp),Q,.of_eq c⟩
  refine NC ((F _ J (U R)).run w7 [] Z H ⟨[.ref a],[]⟩ [.ref a] [.ref a] _ _ hr e0 (T Z (.ref a)) (.cons rfl .nil) (B H l hS)) fun r s' h=>?_;cases r with
  |error e=>exact(E H e s' h).elim
  | ok fl=>
   cases fl with
   |next=>exact g_ h
   |brk=>exact g_ h
   |cont=>exact g_ h
   | ret u=>
    obtain⟨v,H',os,bare,un,S,r',q⟩:=h;have f:v= .bl true:=q;subst f;obtain rfl:u=t4 true:=r';refine⟨rfl,OldK.of_keep fun b o e=>?_,os,bare⟩;cases q:H b with
    |none=>exact un.keep b o e q (by intro z;exact absurd (show b∈([]:List dt)from z) (by simp)) (by simp)
    | some u=>
     rcases l b with z|⟨ob,xs,z⟩
     ·rw[q]at z;cases z
     ·have z2:=un.frzs b ob _ z;obtain⟨e1,_⟩:=Q b _ z;obtain⟨e2,_⟩:=S b _ z2;rw[e]at e1;cases e1;exact e2
 cases hk:K.lookup a with
 |some o=>
  have e:=j a o hk;rw[I]at e;cases e;refine core (fun _=>none) (fun _=>.inl rfl) (.inr ⟨_,vs.toArray,_,hk,rfl,rfl,rfl,by rw[L6,L];exact t,by simpa using p⟩) (fun b u z=>by have N:(none:Option HO)=ar u:=z;cases N) (fun b z=>absurd rfl z) fun z=>absurd rfl z
 | none=>
  refine core (fun b=>if b=a then ar (.frz {cls:=.type "list",data:=.seq vs.toArray} (.lst (ns.map V.int)))else none) (fun b=>?_) (.inl (.inr ⟨{cls:=.type "list",data:=.seq vs.toArray},if_pos rfl⟩)) (fun b u z=>?_) (fun b z=>?_) fun _=>hk
  ·by_cases X:b=a
   ·exact .inr ⟨_,_,if_pos X⟩
   ·exact .inl (if_neg X)
  ·by_cases X:b=a
   ·have N:=(if_pos X).symm.trans z;cases N;subst X;exact⟨I,by rw[LR];exact t,vs,_,p,I⟩
   ·have N:=(if_neg X).symm.trans z;cases N
  ·by_cases X:b=a
   ·exact X
   ·exact absurd (if_neg X) z
end L2
namespace L2
open PySem PySem.Spec PyProof.Rows
abbrev LN{K:dV}{h:fg}(_:K.In h):W.Frag:=K
theorem Ka{l:Rz}{YP:eM->fg->Prop}{d:RX}{K:PJ->dV}{J:eM->Be}{sp:eM->Sp}
  (t:l.most=ar n) (N:n<=sizeLine) (P:d.params.defaults=[]) (r:Room k w7)
  (I:∀(w:eM) (h:fg),YP w h->(K w.params).In h)
  (F:∀(w:eM) (Z:Str->Option aC) (S:dt) (h:fg),(K w.params).In h->h.Ns f' Z->Z d.name=ar (.ref S)->
   ∃fd:fc,(∀(s:b_) (u:aC),GB s fd ⟨[u],[]⟩ [(x,u)])/\
    ∀base:fg,(K w.params).In base->base.Ns f' Z->FnOk l.prog w (K w.params) Z base (J w) k S fd [x] (sp w))
  (O:∀(w:eM) (H:Hp) (a:dt) (ns:List Int),ns.length<=n->GX H->kg (K w.params) H a (ns.map V.int)->sp w [.ref a] H (fun v _=>v= .bl bc) fun _ _ _=>False)
  (Q:∀(w:eM) (H:Hp) (s:b_) (e:aC) (s':b_),J w [] H s (fun _ _ _=>False) e s'->False):
  R6 q loose XP YP l.row.toRowW d [] (fun f vs=>PySem.call f vs):=by
 refine Att.attach_call t P fun w s₀ X Z p S o pm cd doc a vs ns G Y m hd C R U hints hlen E=>?_;have L:=I w _ Y;obtain⟨fd,B,z⟩:=F w Z S _ L G.T.g R;exact BE L G.T.g G.T.b G.T.builtins G.T.nolimit E U hints (Ma hlen N) r z B (fun H A y=>O w H a ns hlen A y) fun H e s'=>Q w H X e s'
end L2
namespace L2
open PySem PySem.Spec PyProof.Rows
def i4(s:p4):Arguments:=match s with
 | .FunctionDef _ a _ _ _ _ _ _ _ _=>a
 |_=>{posonlyargs:=[],args:=[],vararg:=none,kwonlyargs:=[],kw_defaults:=[],kwarg:=none,defaults:=[]}
def dC(s:p4):List Stmt:=match s with
 | .FunctionDef _ _ b _ _ _ _ _ _ _=>b
 |_=>[]
def au(s:p4):Scope:=match s with
 | .FunctionDef _ _ _ _ _ _ sc _ _ _=>sc
 |_=>{kind:=.function,names:=[],isGenerator:=c_,isCoroutine:=c_}
abbrev LC:Be:=fun _ _ _ _ _ _=>False
abbrev E0:XK:=fun _ _ _=>False
structure Fun(K:dV)(x qual:Str)(st:p4)(f:dt)(fd:fc):Prop where
 ex:∃(oc:aC) (od:Option dt) (kV doc pm:aC) (an:Option dt) (cdv ct:aC) (osl:Array (Option aC)),
  fd=D_ x qual (i4 st) (dC st) (au st) .none kV doc pm an cdv ct/\K.lookup f=ar ⟨oc,od,.func fd,osl⟩/\QN K cdv qual=bc
 kp:z3 K (.ref f)=bc
section
variable {P:ee}{w:eM}{K:dV}{mg:Str->Option aC}{base:fg}
theorem Fun.binds{x qual:Str}{Y:p4}{f:dt}{U:fc}{X:List Str}(F:Fun K x qual Y f U)
  (h:∀(kV doc pm:aC) (an:Option dt) (Z ct:aC) (us:List aC),us.length=X.length->Rj (D_ x qual (i4 Y) (dC Y) (au Y) .none kV doc pm an Z ct) ⟨us,[]⟩=a_ (X.zip us)):Binds K U X []:=by
 obtain⟨R,od,kV,doc,pm,an,Z,ct,T,rfl,Q,S⟩:=F.ex;exact .all (h kV doc pm an Z ct)
theorem GY{x qual:Str}{Y:p4}{f:dt}{R:aC}{od T:Option dt}{U:Array (Option aC)}{kV X S Z ct:aC}(l:K.lookup f=ar ⟨R,od,.func (D_ x qual (i4 Y) (dC Y) (au Y) .none kV X S T Z ct),U⟩)
  (c:QN K Z qual=bc) (k:z3 K (.ref f)=bc):Fun K x qual Y f (D_ x qual (i4 Y) (dC Y) (au Y) .none kV X S T Z ct):=⟨⟨R,od,kV,X,S,T,Z,ct,U,rfl,l,c⟩,k⟩
end
section
variable {X:Cx}
theorem pv(i:Nat)(U:X.N[i]? =ar x:=by rfl)(Y:zY X.env.scope x:=by first|exact QZ rfl|exact Qd (QZ rfl)|exact Qd (Qd rfl))(W:(x==("__debug__":Str))=false:=by decide)
  (Z:(x==("__classdict__":Str))=false:=by decide):PE X (.Name x pos) (IG i):=tN U Y W Z
end
end L2
end
namespace S3
open PySem PySem.W PyProof.Rows
def bu{α:Type}(b:Nat->Nat->Bool):RY α->α
 | .ret a=>a
 | .ask i j k=>bu b (k (b i j))
theorem iD{α Z:Type}(b:Nat->Nat->Bool)(f:α->RY Z):∀t:RY α,bu b (t.bind f)=bu b (f (bu b t))
 | .ret _=>rfl
 | .ask i j k=>iD b f (k (b i j))
section
variable (r:Nat->Nat)
abbrev fh:Nat->Nat->Bool:=fun i j=>decide (r i<r j)
def ka(p:Array Nat)(k:Nat):Nat:=r (p.getD k 0)
def BF(p:Array Nat)(n:Nat):Prop:=∀i j,i<=j->j<n->ka r p i<=ka r p j
def KW(p:Array Nat)(n:Nat):Prop:=∀i j,i<=j->j<n->ka r p j<=ka r p i
variable {r}
theorem mB{p q:Array Nat}{i j:Nat}(h:p[i]? =q[j]?):p.getD i 0=q.getD j 0:=by
 rw[MD,MD,h]
theorem tV{p:Array Nat}{i j:Nat}(Z:j<=p.size)(k:Nat):ka r (u0 p i j) k=if i<=k/\k<j then ka r p (i+j - 1 - k)else ka r p k:=by
 have h:=getElem?_mirror_all (i:=i) Z k;unfold ka u0;by_cases c:i<=k/\k<j
 ·rw[if_pos c]at h⊢;rw[mB h]
 ·rw[if_neg c]at h⊢;rw[mB h]
theorem sA{p:Array Nat}{Z d:Nat}(hs:Z<p.size)(Y:d<=Z)(k:Nat):ka r (RZ p Z d) k=if k=Z - d then ka r p Z else if Z - d<k/\k<=Z then ka r p (k - 1)else ka r p k:=by
 have h:=getElem?_bubble hs d Y k;unfold ka;by_cases c:k=Z - d
 ·rw[if_pos c]at h⊢;rw[mB h]
 ·rw[if_neg c]at h⊢;by_cases c2:Z - d<k/\k<=Z
  ·rw[if_pos c2]at h⊢;rw[mB h]
  ·rw[if_neg c2]at h⊢;rw[mB h]
theorem p9:(u0 p i j).size=p.size:=mirror_size _ _ _ _
theorem f9:(u0 p i j).Perm p:=mirror_perm _ _ _ _
theorem tW:∀(f n:Nat),1<=n->BF r p n->n<=bu (fh r) (tu p f n)/\bu (fh r) (tu p f n)<=n+f/\BF r p (bu (fh r) (tu p f n))
 |0,n,h1,h=>⟨LU _,LU _,h⟩
 | f +1,n,h1,h=>by
  show n<=bu (fh r) (if (fh r) (p.getD n 0) (p.getD (n - 1) 0)=bc then QP n else tu p f (n+1))/\bu (fh r) (if (fh r) (p.getD n 0) (p.getD (n - 1) 0)=bc then QP n else tu p f (n+1))<=n+(f+1)/\BF r p (bu (fh r) (if (fh r) (p.getD n 0) (p.getD (n - 1) 0)=bc then QP n else tu p f (n+1)));by_cases c:(fh r) (p.getD n 0) (p.getD (n - 1) 0)=bc
  ·rw[if_pos c];exact⟨LU _,by show n<=n+(f+1);omega,h⟩
  ·rw[if_neg c];have Y:ka r p (n - 1)<=ka r p n:=by
    exact PU fun z=>c (L8 z)
   obtain⟨a1,a2,X⟩:=tW f (n+1) (by omega) (fun i j Z W=>by
    by_cases e:j=n
    ·subst e;by_cases e2:i=j
     ·subst e2;exact LU _
     ·exact Ma (h i (j - 1) (by omega) (by omega)) Y
    ·exact h i j Z (by omega))
   exact⟨by omega,by omega,X⟩
structure Down(r:Nat->Nat)(p:Array Nat)(n q:Nat):Prop where
 dsc:KW r p n
 q1:q+1<=n
 eqs:∀k,n - (q+1)<=k->k<n->ka r p k=ka r p (n - 1)
theorem qb{p:Array Nat}(Z:n<=p.size)(h:Down r p n q):∀k,ka r (u0 p (n - (q+1)) n) k=ka r p k:=fun k=>by
 rw[tV Z];split
 ·next c=>rw[h.eqs k c.1 c.2,h.eqs _ (by omega) (by omega)]
 ·rfl
theorem mC:∀(f:Nat) (p:Array Nat) (n q:Nat),n+f<=p.size->Down r p n q->
  Down r (bu (fh r) (t_ f p n q)).1 (bu (fh r) (t_ f p n q)).2.1 (bu (fh r) (t_ f p n q)).2.2/\(bu (fh r) (t_ f p n q)).1.Perm p/\n<=(bu (fh r) (t_ f p n q)).2.1/\(bu (fh r) (t_ f p n q)).2.1<=n+f
 |0,p,n,q,hs,h=>⟨h,Ot _,LU _,LU _⟩
 | f +1,p,n,q,hs,h=>by
  have e:bu (fh r) (t_ (f+1) p n q)=if ka r p n<ka r p (n - 1)then (if q>0 then bu (fh r) (t_ f (u0 p (n - (q+1)) n) (n+1) 0)else bu (fh r) (t_ f p (n+1) 0))
    else if ka r p (n - 1)<ka r p n then (p,n,q)else bu (fh r) (t_ f p (n+1) (q+1)):=by
   show bu (fh r) (if (fh r) (p.getD n 0) (p.getD (n - 1) 0)=bc then _ else _)=_;unfold ka;by_cases c:r (p.getD n 0)<r (p.getD (n - 1) 0)
   ·rw[if_pos (by simpa using c),if_pos c]
    split<;>rfl
   ·rw[if_neg (by simpa using c),if_neg c]
    show bu (fh r) (if (fh r) (p.getD (n - 1) 0) (p.getD n 0)=bc then _ else _)=_;by_cases c2:r (p.getD (n - 1) 0)<r (p.getD n 0)
    ·rw[if_pos (by simpa using c2),if_pos c2];rfl
    ·rw[if_neg (by simpa using c2),if_neg c2]
  have U:=h.q1;have ext:∀{p':Array Nat} {q':Nat},(∀k,ka r p' k=ka r p k)->ka r p n<=ka r p (n - 1)->(q'=0\/(q'=q+1/\ka r p n=ka r p (n - 1)))->Down r p' (n+1) q':=fun{p' q'} hk hle hq=>by
   refine⟨fun i j Z T=>?_,by omega,fun k W X=>?_⟩
   ·rw[hk,hk];by_cases ej:j=n
    ·subst ej;by_cases e2:i=j
     ·subst e2;exact LU _
     ·exact Ma hle (h.dsc i (j - 1) (by omega) (by omega))
    ·exact h.dsc i j Z (by omega)
   ·rw[hk,hk,show n+1 - 1=n by omega]
    rcases hq with rfl|⟨rfl,he⟩
    ·have:k=n:=by omega
     subst this;rfl
    ·by_cases ek:k=n
     ·subst ek;rfl
     ·rw[he];exact h.eqs k (by omega) (by omega)
  rw[e];by_cases c:ka r p n<ka r p (n - 1)
  ·rw[if_pos c];by_cases hq:q>0
   ·rw[if_pos hq];obtain⟨a1,a2,Y,a4⟩:=mC f (u0 p (n - (q+1)) n) (n+1) 0 (by rw[p9];omega) (ext (qb (by omega) h) (by omega) (.inl rfl))
    exact⟨a1,a2.trans f9,by omega,by omega⟩
   ·rw[if_neg hq];obtain⟨a1,a2,Y,a4⟩:=mC f p (n+1) 0 (by omega) (ext (fun _=>rfl) (by omega) (.inl rfl))
    exact⟨a1,a2,by omega,by omega⟩
  ·rw[if_neg c];by_cases c2:ka r p (n - 1)<ka r p n
   ·rw[if_pos c2];exact⟨h,Ot _,LU _,by show n<=n+(f+1);omega⟩
   ·rw[if_neg c2];obtain⟨a1,a2,Y,a4⟩:=mC f p (n+1) (q+1) (by omega) (ext (fun _=>rfl) (by omega) (.inr ⟨rfl,by omega⟩))
    exact⟨a1,a2,by omega,by omega⟩
structure Got(r:Nat->Nat)(nrem:Nat)(p:Array Nat)(g:Nat×Array Nat):Prop where
 asc:BF r g.2 g.1
 le:g.1<=nrem
 pos:1<=g.1
 perm:g.2.Perm p
theorem sC{p:Array Nat}(X:1<=n)(U:n<=nrem)(hs:nrem<=p.size)(h:KW r p n):Got r nrem p (bu (fh r) (RA n nrem p)):=by
 unfold RA;rw[iD];have Y:BF r (u0 p 0 n) n:=fun i j Z T=>by
  rw[tV (by omega),tV (by omega),if_pos ⟨by omega,by omega⟩,if_pos ⟨by omega,by omega⟩]
  exact h _ _ (by omega) (by omega)
 obtain⟨a1,a2,W⟩:=tW (p:=u0 p 0 n) (nrem - n) n X Y;exact⟨W,by show bu (fh r) (tu (u0 p 0 n) (nrem - n) n)<=nrem;omega,by show 1<=bu (fh r) (tu (u0 p 0 n) (nrem - n) n);omega,f9⟩
theorem mD{p:Array Nat}(S:n<nrem)(hs:nrem<=p.size)(h:Down r p (n+1) 0):Got r nrem p (bu (fh r) (QQ n nrem p)):=by
 unfold QQ;rw[iD];obtain⟨a1,a2,U,a4⟩:=mC (nrem - (n+1)) p (n+1) 0 (by omega) h
 generalize bu (fh r) (t_ (nrem - (n+1)) p (n+1) 0)=d at a1 a2 U a4;obtain⟨Y,n',X⟩:=d;dsimp only at a1 a2 U a4;have Z:Y.size=p.size:=a2.size_eq;by_cases hq:X>0
 ·show Got r nrem p (bu (fh r) (if X>0 then _ else _));rw[if_pos hq];have hd:KW r (u0 Y (n' - (X+1)) n') n':=fun i j W T=>by
   rw[qb (show n'<=Y.size by omega) a1,qb (show n'<=Y.size by omega) a1]
   exact a1.dsc i j W T
  have:=sC (n:=n') (nrem:=nrem) (by omega) (by omega) (by rw[p9,Z];exact hs) hd
  exact⟨this.asc,this.le,this.pos,(this.perm.trans f9).trans a2⟩
 ·show Got r nrem p (bu (fh r) (if X>0 then _ else _));rw[if_neg hq];have:=sC (n:=n') (nrem:=nrem) (by omega) (by omega) (by rw[Z];exact hs) a1.dsc
  exact⟨this.asc,this.le,this.pos,this.perm.trans a2⟩
theorem Ag{p:Array Nat}(O:2<=nrem)(hs:nrem<=p.size):Got r nrem p (bu (fh r) (Q0 nrem p)):=by
 unfold Q0;rw[iD];obtain⟨a1,a2,Y⟩:=tW (r:=r) (p:=p) (nrem - 1) 1 (LU _) (fun i j X S=>by
  have:i=j:=by omega
  subst this;exact LU _)
 have stop:∀(f n:Nat),1<=n->bu (fh r) (tu p f n)<n+f->ka r p (bu (fh r) (tu p f n))<ka r p (bu (fh r) (tu p f n) - 1):=by
  intro f
  induction f with
  |zero=>intro n _ h;exact absurd h (Nm _)
  | succ f ih=>
   intro n W h;have e:bu (fh r) (tu p (f+1) n)=if ka r p n<ka r p (n - 1)then n else bu (fh r) (tu p f (n+1)):=by
    show bu (fh r) (if (fh r) (p.getD n 0) (p.getD (n - 1) 0)=bc then _ else _)=_;unfold ka;by_cases c:r (p.getD n 0)<r (p.getD (n - 1) 0)
    ·rw[if_pos (L8 c),if_pos c];rfl
    ·rw[if_neg (fun z=>c (MQ z)),if_neg c]
   rw[e]at h⊢;by_cases c:ka r p n<ka r p (n - 1)
   ·rw[if_pos c];exact c
   ·rw[if_neg c]at h⊢;exact ih (n+1) (by omega) (by omega)
 have Z:=stop (nrem - 1) 1 (LU _);generalize bu (fh r) (tu p (nrem - 1) 1)=n at a1 a2 Y Z;by_cases hn:n=nrem
 ·show Got r nrem p (bu (fh r) (if (n==nrem)=bc then _ else _));rw[if_pos (by simp[hn])]
  exact⟨Y,by show n<=nrem;omega,a1,Ot _⟩
 ·show Got r nrem p (bu (fh r) (if (n==nrem)=bc then _ else _));rw[if_neg (by simp[hn])]
  have P:=Z (by omega)
  by_cases W:n>1
  ·rw [if_pos W];show Got r nrem p (bu (fh r) (if (fh r) (p.getD 0 0) (p.getD (n - 1) 0)=bc then _ else _));by_cases c:r (p.getD 0 0)<r (p.getD (n - 1) 0)
   ·rw[if_pos (L8 c)];exact⟨Y,by show n<=nrem;omega,a1,Ot _⟩
   ·rw [if_neg (fun z=>c (MQ z))];have all:∀k,k<n->ka r p k=ka r p (n - 1):=fun k Q=>by
     have R:=Y 0 k (by omega) Q
     have T:=Y k (n - 1) (by omega) (by omega)
     have N:ka r p (n - 1)<=ka r p 0:=PU c;omega
    have U:∀k,ka r (u0 p 0 n) k=ka r p k:=fun k=>by
     rw[tV (by omega)]
     split
     ·next h=>rw[all k h.2,all _ (by omega)]
     ·rfl
    have:=mD (r:=r) (n:=n) (nrem:=nrem) (p:=u0 p 0 n) (by omega) (by rw[p9];exact hs) ⟨fun i j X S=>by
      rw[U,U];by_cases ej:j=n
      ·subst ej;by_cases ei:i=j
       ·subst ei;exact LU _
       ·rw[all i (by omega)];omega
      ·rw[all i (by omega),all j (by omega)];exact LU _,by omega,fun k R T=>by rw[show k=n+1 - 1 by omega]⟩
    exact⟨this.asc,this.le,this.pos,this.perm.trans f9⟩
  ·rw [if_neg W];have e1:n=1:=by omega
   subst e1;exact mD (by omega) hs ⟨fun i j X S=>by
     by_cases ej:j=1
     ·subst ej;by_cases ei:i=1
      ·subst ei;exact LU _
      ·rw[show i=1 - 1 by omega];omega
     ·rw[show i=j by omega];exact LU _,by omega,fun k R T=>by rw[show k=1+1 - 1 by omega]⟩
theorem nI(Z:BF r p k):∀(f l m:Nat),m - l<=f->l<=m->m<=k->(∀i,i<l->ka r p i<=ka r p k)->(∀i,m<=i->i<k->ka r p k<=ka r p i)->
  bu (fh r) (sb p k f l m)<=k/\(∀i,i<bu (fh r) (sb p k f l m)->ka r p i<=ka r p k)/\∀i,bu (fh r) (sb p k f l m)<=i->i<k->ka r p k<=ka r p i
 |0,l,m,hf,hl,hm,h1,h2=>by
  have:l=m:=by omega
  subst this;exact⟨by show l<=k;omega,h1,h2⟩
 | f+1,l,m,hf,hl,hm,h1,h2=>by
  by_cases c:l ≥ m
  ·have e:bu (fh r) (sb p k (f+1) l m)=l:=by
    show bu (fh r) (if l ≥ m then _ else _)=l;rw[if_pos c];rfl
   rw[e];have:l=m:=by omega
   subst this;exact⟨by omega,h1,h2⟩
  ·have e:bu (fh r) (sb p k (f+1) l m)=if ka r p k<ka r p ((l+m) / 2)then bu (fh r) (sb p k f l ((l+m) / 2))else bu (fh r) (sb p k f ((l+m) / 2+1) m):=by
    show bu (fh r) (if l ≥ m then _ else _)=_;rw[if_neg c];show bu (fh r) (if (fh r) (p.getD k 0) (p.getD ((l+m) / 2) 0)=bc then _ else _)=_;unfold ka;by_cases d:r (p.getD k 0)<r (p.getD ((l+m) / 2) 0)
    ·rw[if_pos (L8 d),if_pos d]
    ·rw[if_neg (fun z=>d (MQ z)),if_neg d]
   rw[e];by_cases d:ka r p k<ka r p ((l+m) / 2)
   ·rw[if_pos d];exact nI Z f l ((l+m) / 2) (by omega) (by omega) (by omega) h1 fun i hi Y=>Ma (Nu d) (Z _ i hi Y)
   ·rw[if_neg d];exact nI Z f ((l+m) / 2+1) m (by omega) (by omega) hm (fun i hi=>Ma (Z i ((l+m) / 2) (by omega) (by omega)) (by omega)) h2
theorem yD:∀(f:Nat) (p:Array Nat) (k:Nat),k+f<=p.size->BF r p k->BF r (bu (fh r) (Qw f p k)) (k+f)/\(bu (fh r) (Qw f p k)).Perm p
 |0,p,k,hs,h=>⟨h,Ot _⟩
 | f +1,p,k,hs,h=>by
  have e:bu (fh r) (Qw (f+1) p k)=bu (fh r) (Qw f (RZ p k (k - bu (fh r) (sb p k k 0 k))) (k+1)):=by
   show bu (fh r) ((sb p k k 0 k).bind _)=_;rw[iD]
  rw[e];obtain⟨Q,W,X⟩:=nI (r:=r) h k 0 k (by omega) (by omega) (LU _) (fun i hi=>absurd hi (P0 _)) (fun i hi R=>absurd R (by omega))
  generalize bu (fh r) (sb p k k 0 k)=l at Q W X;have U:BF r (RZ p k (k - l)) (k+1):=fun i j Z P=>by
   rw[sA (by omega) (by omega),sA (by omega) (by omega)]
   have Y:k - (k - l)=l:=by omega
   rw[Y];by_cases ei:i=l
   ·rw[if_pos ei];by_cases ej:j=l
    ·rw[if_pos ej];exact LU _
    ·rw[if_neg ej,if_pos ⟨by omega,by omega⟩];exact X (j - 1) (by omega) (by omega)
   ·rw[if_neg ei];by_cases ci:l<i/\i<=k
    ·rw[if_pos ci,if_neg (by omega),if_pos ⟨by omega,by omega⟩];exact h _ _ (by omega) (by omega)
    ·rw[if_neg ci];by_cases ej:j=l
     ·rw[if_pos ej];exact W i (by omega)
     ·rw[if_neg ej];by_cases cj:l<j/\j<=k
      ·rw[if_pos cj];exact h _ _ (by omega) (by omega)
      ·rw[if_neg cj];exact h _ _ Z (by omega)
  obtain⟨T,S⟩:=yD f (RZ p k (k - l)) (k+1) (by rw[bubble_size];omega) U
  refine⟨?_,S.trans (bubble_perm _ _ _)⟩;rw[show k+(f+1)=k+1+f by omega];exact T
theorem BG(X:2<=n):BF r (bu (fh r) (u_ n)) n/\(bu (fh r) (u_ n)).Perm (B' (ed n)):=by
 unfold u_;rw[iD];have G:=Ag (r:=r) (nrem:=n) (p:=B' (ed n)) X (by simp)
 generalize bu (fh r) (Q0 n (B' (ed n)))=g at G;obtain⟨m,p⟩:=g;have U:p.size=n:=by rw[G.perm.size_eq];simp
 have hle:m<=n:=G.le;have Y:1<=m:=G.pos;show BF r (bu (fh r) (if m<n then Qw (n - max m 1) p (max m 1)else QP p)) n/\Array.Perm (bu (fh r) (if m<n then Qw (n - max m 1) p (max m 1)else QP p)) (B' (ed n));by_cases c:m<n
 ·rw[if_pos c];have em:max m 1=m:=by omega
  rw[em];obtain⟨Z,W⟩:=yD (r:=r) (n - m) p m (by omega) G.asc
  refine⟨?_,W.trans G.perm⟩;rw[show m+(n - m)=n by omega]at Z;exact Z
 ·rw[if_neg c];have em:m=n:=by omega
  subst em;exact⟨G.asc,G.perm⟩
end
def qc(n:Nat){α:Type}(R:α->Prop):RY α->Prop
 | .ret a=>R a
 | .ask i j k=>i<n/\j<n/\∀b,qc n R (k b)
theorem jv{n:Nat}{α Y:Type}{R:α->Prop}{Z:Y->Prop}{f:α->RY Y}:∀{t:RY α},qc n R t->(∀a,R a->qc n Z (f a))->qc n Z (t.bind f)
 | .ret a,h,k=>k a h
 | .ask i j g,h,k=>⟨h.1,h.2.1,fun b=>jv (h.2.2 b) k⟩
theorem BH{n:Nat}{α:Type}{R:α->Prop}{Z:Nat->Nat->(Bool->b_->Prop)->b_->Prop}{b:Nat->Nat->Bool}{s:b_}{Q:α->b_->Prop}(h:∀i j C,i<n->j<n->C (b i j) s->Z i j C s):
  ∀{t:RY α},qc n R t->Q (bu b t) s->t.kasWp Z Q s
 | .ret a,_,q=>q
 | .ask i j k,o,q=>h i j _ o.1 o.2.1 (BH h (o.2.2 (b i j)) q)
theorem qd{n:Nat}{α:Type}{R:α->Prop}{b Z:Nat->Nat->Bool}(h:∀i j,i<n->j<n->b i j=Z i j):∀{t:RY α},qc n R t->bu b t=bu Z t
 | .ret a,_=>rfl
 | .ask i j k,o=>by
  show bu b (k (b i j))=bu Z (k (Z i j));rw[h i j o.1 o.2.1];exact qd h (o.2.2 _)
def In(n:Nat)(p:Array Nat):Prop:=0<n/\∀x∈p.toList,x<n
theorem In.get(h:In n p)(k:Nat):p.getD k 0<n:=by
 rw[MD];cases e:p[k]? with
 |none=>exact h.1
 |some x=>exact h.2 x (by rw[<-Mq]at e;exact Mx e)
theorem In.perm{q:Array Nat}(h:In n p)(e:q.Perm p):In n q:=⟨h.1,fun x Z=>h.2 x ((Array.Perm.toList e).mem_iff.mp Z)⟩
theorem tX(h:In n p):∀(f m:Nat),qc n (fun _=>True) (tu p f m)
 |0,m=>trivial
 | f+1,m=>⟨h.get _,h.get _,fun b=>by
   cases b with
   |true=>exact trivial
   |false=>exact tX h f (m+1)⟩
theorem mE:∀(f:Nat) (p:Array Nat) (m q:Nat),In n p->qc n (fun r=>In n r.1) (t_ f p m q)
 |0,p,m,q,h=>h
 | f+1,p,m,q,h=>⟨h.get _,h.get _,fun b=>by
   cases b with
   |true=>
    show qc n _ (if q>0 then _ else _);split
    ·exact mE f _ _ _ (h.perm f9)
    ·exact mE f _ _ _ h
   |false=>
    refine⟨h.get _,h.get _,fun b=>?_⟩;cases b with
    |true=>exact h
    |false=>exact mE f _ _ _ h⟩
theorem sD(h:In n p):qc n (fun r:Nat×Array Nat=>In n r.2) (RA m nrem p):=
 jv (tX (h.perm f9) _ _) fun _ _=>h.perm f9
theorem mF(h:In n p):qc n (fun r:Nat×Array Nat=>In n r.2) (QQ m nrem p):=
 jv (mE _ _ _ _ h) fun a Z=>by
  split
  ·exact sD (Z.perm f9)
  ·exact sD Z
theorem Ah(h:In n p):qc n (fun r:Nat×Array Nat=>In n r.2) (Q0 nrem p):=
 jv (tX h _ _) fun a _=>by
  split
  ·exact h
  ·split
   ·refine⟨h.get _,h.get _,fun b=>?_⟩;cases b with
    |true=>exact h
    |false=>exact mF (h.perm f9)
   ·exact mF h
theorem nJ(h:In n p):∀(f l m:Nat),qc n (fun _=>True) (sb p k f l m)
 |0,l,m=>trivial
 | f+1,l,m=>by
  show qc n _ (if l ≥ m then _ else _);split
  ·exact trivial
  ·refine⟨h.get _,h.get _,fun b=>?_⟩;cases b with
   |true=>exact nJ h f _ _
   |false=>exact nJ h f _ _
theorem yE:∀(f:Nat) (p:Array Nat) (k:Nat),In n p->qc n (In n) (Qw f p k)
 |0,p,k,h=>h
 |f+1,p,k,h=>jv (nJ h _ _ _) fun l _=>yE f _ _ (h.perm (bubble_perm _ _ _))
theorem vy(X:0<n):qc n (In n) (u_ n):=
 jv (Ah ⟨X,fun x Y=>by simpa using Y⟩) fun a Z=>by
  split
  ·exact yE _ _ _ Z
  ·exact Z
theorem vz{α:Type}{p q:α->Bool}:∀{l:List α} {x:α},(∀y∈l,p y=bc->q y=bc)->x∈l->p x=c_->q x=bc->l.countP p<l.countP q
 | y::l,x,h,hx,hp,hq=>by
  have X:l.countP p<=l.countP q:=List.countP_mono_left fun z Z=>h z (L5 _ Z);rw[List.countP_cons,List.countP_cons];rcases Me.mp hx with e|hx'
  ·subst e;rw[hp,hq];simp;omega
  ·have W:=vz (fun z Z=>h z (L5 _ Z)) hx' hp hq;have Y:=h y Md;cases e1:p y with
   |true=>rw[Y e1];simp;omega
   |false=>simp;split<;>omega
theorem Ef{b:Nat->Nat->Bool}(R:2<=n)(T:∀i,i<n->b i i=c_)(P:∀i j k,i<n->j<n->k<n->b i j=bc->b j k=bc->b i k=bc)(W:∀i j k,i<n->j<n->k<n->b i k=bc->b i j=bc\/b j k=bc):
  (bu b (u_ n)).Perm (B' (ed n))/\∀i j,i<=j->j<n->b ((bu b (u_ n)).getD j 0) ((bu b (u_ n)).getD i 0)=false:=by
 let r:Nat->Nat:=fun i=>(ed n).countP fun j=>b j i;have S:∀i j,i<n->j<n->b i j=decide (r i<r j):=fun i j hi Y=>by
  cases e:b i j with
  |true=>
   refine(L8 ?_).symm;exact vz (x:=i) (fun y X h=>P y i j (L9.mp X) hi Y h e) (L9.mpr hi) (T i hi) e
  |false=>
   refine(Mj (Qi.mpr ?_)).symm;refine List.countP_mono_left fun y X h=>?_;rcases W y i j (L9.mp X) hi Y h with z|z
   ·exact z
   ·rw[e]at z;cases z
 have O:bu b (u_ n)=bu (fh r) (u_ n):=qd S (vy (by omega))
 obtain⟨a1,a2⟩:=BG (r:=r) R;rw[O];refine⟨a2,fun i j U Y=>?_⟩;have Z:In n (bu (fh r) (u_ n)):=In.perm ⟨by omega,fun x Q=>by simpa using Q⟩ a2
 rw[S _ _ (Z.get j) (Z.get i)];exact Mj (Qi.mpr (a1 i j U Y))
end S3
namespace S3
open PySem PySem.Spec PySem.W PyProof.Rows L2
section
variable {prog:ee}{w:eM}{A:gd}{E:aC->b_->Prop}{s:b_}{Q:Bool->b_->Prop}
theorem vA:∀{us ws:List aC} {ns ms:List Int} (i:Nat),(b=bc\/0<i\/True)->oD us ns->oD ws ms->Q (HT.lexLt ns ms) s->
  KatLex prog w A b (decide (us.length<ws.length)) Q (us.zip ws) i s\/us.length≠ws.length
 |[],[],ns,ms,i,_,h1,h2,q=>by
  cases h1;cases h2;exact .inl q
 |[],_::_,_,_,_,_,_,_,_=>.inr (by simp)
 |_::_,[],_,_,_,_,_,_,_=>.inr (by simp)
 | u ::us,v::ws,ns,ms,i,hb,h1,h2,q=>by
  cases h1 with
  |cons n t h1=>
  cases h2 with
  | cons k t' h2=>
   rw[HT.lexLt_cons]at q;by_cases e:n=k
   ·rw[if_pos e]at q;rcases vA (b:=b) (i+1) (.inr (.inr trivial)) h1 h2 q with z|z
    ·refine .inl (kat_cons (PM ?_));have:(n==k)=true:=by simp[e]
     rw[this];refine kat_yes ?_;show KatLex prog w A b (decide (us.length+1<ws.length+1)) Q (us.zip ws) (i+1) s;rw[show decide (us.length+1<ws.length+1)=decide (us.length<ws.length) by simp]
     exact z
    ·exact .inr (by simpa using z)
   ·rw[if_neg e]at q;refine .inl (kat_cons (PM ?_));have:(n==k)=false:=by simp[e]
    rw[this];refine kat_no ?_;cases hbi:(b && i==0)with
    |true=>exact oneLt_int q
    |false=>exact kat_one _ _ (lt_int q)
end
structure Tups(h:fg)(vs:List aC)(nss:List (List Int))(c:Nat):Prop where
 len:vs.length=nss.length
 get:∀(i:Nat),i<vs.length->∃a o us n,vs.getD i hJ= .ref a/\h.get? a=ar o/\o.cls= .type "tuple"/\o.data= .seq us n/\oD us.toList (nss.getD i [])/\us.size=c+1
theorem Tups.keep{h':fg}(t:Tups h vs nss c)(k:∀i a o,i<vs.length->vs.getD i hJ= .ref a->h.get? a=ar o->h'.get? a=ar o):Tups h' vs nss c:=
 ⟨t.len,fun i hi=>let ⟨a,o,us,n,e1,e2,r⟩:=t.get i hi;⟨a,o,us,n,e1,k i a o hi e1 e2,r⟩⟩
theorem Tups.ask{s:b_}(t:Tups s.heap vs nss c){C:Bool->b_->Prop}(hi:i<vs.length)(W:j<vs.length)
  (q:C (HT.lexLt (nss.getD i []) (nss.getD j [])) s):kas_ask prog w A (tuples' b) vs i j C s:=by
 obtain⟨a,o,us,n,e1,e2,e3,R,X,U⟩:=t.get i hi;obtain⟨P,Q,Z,n',f1,f2,O,f4,Y,T⟩:=t.get j W;unfold kas_ask;rw[e1,f1];refine kat_lt e2 R f2 f4 ?_;have S:us.toList.length=Z.toList.length:=by simp[U,T]
 rcases vA (prog:=prog) (w:=w) (A:=A) (b:=b) 0 (.inr (.inr trivial)) X Y q with z|z
 ·simpa using z
 ·exact absurd S z
end S3
namespace S3
open PySem PySem.Spec PyProof.Rows L2
abbrev St:=L2.St
def kj(cells:List (Str×dt)):List (Str×n7)->List (Str×dt)->List (Str×dt)
 |[],cs=>cs
 |(n,k)::r,cs=>kj cells r (if k== .free then (n,(cells.lookup n).getD 0)::cs else cs)
theorem mG(scope:Scope)(env:Env)(h:∀y∈scope.names,y.2= .free->∃c,env.cells.lookup y.1=ar c):Rn scope env=a_ (kj env.cells scope.names []):=by
 have go:∀(names:List (Str×n7)) (cs:List (Str×dt)),(∀y∈names,y.2= .free->∃c,env.cells.lookup y.1=ar c)->
   (RB names cs (fun(x:Str×n7) (r:List (Str×dt))=>(if (x.2==hY)=bc then do let a<-cellOf env x.1;a_ (A_ ((x.1,a)::r))else a_ (A_ r):Sem (ForInStep (List (Str×dt))))):Sem (List (Str×dt)))=a_ (kj env.cells names cs):=by
  intro names
  induction names with
  |nil=>intro cs _;rfl
  | cons y r ih=>
   intro cs X;obtain⟨n,k⟩:=y;have U:∀y∈r,y.2= .free->∃c,env.cells.lookup y.1=ar c:=fun y hm=>X y (L5 _ hm);rw[O'];by_cases hk:(k==hY)=bc
   ·have Y:k= .free:=by simpa using hk
    obtain⟨c,W⟩:=X (n,k) Md Y;have e:cellOf env n=a_ c:=by unfold cellOf;rw[W]
    simp only[hk,if_true,e,pure_bind];rw[ih _ U];simp only[kj,hk,if_true,W,Option.getD_some]
   ·have Z:(k==hY)=false:=by simpa using hk
    simp only[Z,ey,if_false,pure_bind];rw[ih _ U];simp only[kj,Z,ey,if_false]
 have:=go scope.names [] h;unfold Rn;simp only[bind_pure]at*;exact this
theorem tY{cells:List (Str×dt)}:∀(names:List (Str×n7)) (cs:List (Str×dt)),(∀y∈names,y.2= .free->∃c,cells.lookup y.1=ar c)->(∀p∈cs,cells.lookup p.1=ar p.2)->
  ∀p∈kj cells names cs,cells.lookup p.1=ar p.2
 |[],cs,_,h=>h
 | (n,k)::r,cs,hy,h=>by
  refine tY r _ (fun y hm=>hy y (L5 _ hm)) fun p Z=>?_;by_cases hk:(k==hY)=bc
  ·rw[if_pos hk]at Z;rcases Me.mp Z with rfl|Z
   ·obtain⟨c,X⟩:=hy (n,k) Md (by simpa using hk)
    show cells.lookup n=ar ((cells.lookup n).getD 0);have Y:cells.lookup n=ar c:=X;rw[Y];rfl
   ·exact h p Z
  ·rw[if_neg hk]at Z;exact h p Z
theorem kl:∀(names:List (Str×n7)) (cs:List (Str×dt)),(x,hY)∈names\/x∈cs.map (·.1)->x∈(kj cells names cs).map (·.1)
 |[],cs,h=>by
  rcases h with h|h
  ·cases h
  ·exact h
 | (n,k)::r,cs,h=>by
  refine kl r _ ?_;rcases h with h|h
  ·rcases Me.mp h with e|h
   ·cases e;refine .inr ?_;simp
   ·exact .inl h
  ·refine .inr ?_;by_cases hk:(k==hY)=bc
   ·rw[if_pos hk];exact L5 _ h
   ·rw[if_neg hk];exact h
theorem lookup_mem:∀{l:List (Str×dt)},l.lookup x=ar c->(x,c)∈l
 |[],h=>by cases h
 | (n,a)::r,h=>by
  by_cases e:x==n
  ·have Z:x=n:=by simpa using e
   rw[MC,e]at h;have h':ar a=ar c:=h;cases h';subst Z;exact Md
  ·have e2:(x==n)=false:=by simpa using e
   rw[MC,e2]at h;exact L5 _ (lookup_mem h)
theorem mem_lookup:∀{l:List (Str×dt)},x∈l.map (·.1)->∃c,l.lookup x=ar c
 |[],h=>by cases h
 | (n,a)::r,h=>by
  by_cases e:x==n
  ·exact⟨a,by rw[MC,e]⟩
  ·have e2:(x==n)=false:=by simpa using e
   rw[MC,e2];refine mem_lookup ?_;rcases Me.mp h with z|z
   ·have Z:x=n:=z;subst Z;simp at e
   ·exact z
theorem bL:∀{l:List (Str×n7)},l.lookup x=ar k->(x,k)∈l
 |[],h=>by cases h
 | (n,a)::r,h=>by
  by_cases e:x==n
  ·have Z:x=n:=by simpa using e
   rw[MC,e]at h;have h':ar a=ar k:=h;cases h';subst Z;exact Md
  ·have e2:(x==n)=false:=by simpa using e
   rw[MC,e2]at h;exact L5 _ (bL h)
theorem jI{env:Env}:∀{names:List (Str×n7)} {k:n7},
  (names.map fun(n,k)=>if (k==hY && env.scope.kind== .function && env.kindOf n==ar .cell)then (n,p8)else (n,k)).lookup x=ar k->
   names.lookup x=ar k\/(k= .cell/\names.lookup x=ar .free)
 |[],k,h=>by cases h
 | (n,a)::r,k,h=>by
  by_cases e:x==n
  ·rw[Mh]at h;by_cases c:(a==hY && env.scope.kind== .function && env.kindOf n==ar .cell)=bc
   ·have Y:a= .free:=by
     simp only[h_,beq_iff_eq]at c;exact c.1.1
    simp only[c,if_true,mh,e]at h;cases h;refine .inr ⟨rfl,?_⟩;rw[MC,e,Y]
   ·have Z:(a==hY && env.scope.kind== .function && env.kindOf n==ar .cell)=false:=by simpa using c
    simp only[Z,ey,if_false,mh,e]at h;refine .inl ?_;rw[MC,e];exact h
  ·have e2:(x==n)=false:=by simpa using e
   rw[MC,e2];refine jI (env:=env) (names:=r) ?_;rw[Mh]at h;by_cases c:(a==hY && env.scope.kind== .function && env.kindOf n==ar .cell)=bc
   ·simp only[c,if_true,mh,e2]at h;exact h
   ·have Z:(a==hY && env.scope.kind== .function && env.kindOf n==ar .cell)=false:=by simpa using c
    simp only[Z,ey,if_false,mh,e2]at h;exact h
theorem mH{env:Env}:∀{names:List (Str×n7)},names.lookup x=ar .free->
  (names.map fun(n,k)=>if (k==hY && env.scope.kind== .function && env.kindOf n==ar .cell)then (n,p8)else (n,k)).lookup x=ar .cell\/
  (names.map fun(n,k)=>if (k==hY && env.scope.kind== .function && env.kindOf n==ar .cell)then (n,p8)else (n,k)).lookup x=ar .free
 |[],h=>by cases h
 | (n,a)::r,h=>by
  rw[Mh];by_cases e:x==n
  ·rw[MC,e]at h;have X:ar a=ar NameKind.free:=h;cases X;by_cases c:(hY==hY && env.scope.kind== .function && env.kindOf n==ar .cell)=bc
   ·refine .inl ?_;simp only[c,if_true,mh,e]
   ·have Z:(hY==hY && env.scope.kind== .function && env.kindOf n==ar .cell)=false:=by simpa using c
    refine .inr ?_;simp only[Z,ey,if_false,mh,e]
  ·have e2:(x==n)=false:=by simpa using e
   rw[MC,e2]at h;have Y:=mH (env:=env) h;by_cases c:(a==hY && env.scope.kind== .function && env.kindOf n==ar .cell)=bc
   ·simp only[c,if_true,mh,e2];exact Y
   ·have Z:(a==hY && env.scope.kind== .function && env.kindOf n==ar .cell)=false:=by simpa using c
    simp only[Z,ey,if_false,mh,e2];exact Y
theorem xn:∀{names:List (Str×n7)} {n:Nat} {acc:List (Str×dt)} {p:Str×dt},p∈k_ n names acc->p∈acc\/n<=p.2
 |[],n,acc,p,h=>.inl h
 | (x,k)::r,n,acc,p,h=>by
  unfold k_ at h;split at h
  ·rcases xn h with h|h
   ·rcases Me.mp h with rfl|h
    ·exact .inr (LU _)
    ·exact .inl h
   ·exact .inr (OI h)
  ·exact xn h
theorem xo:∀{names:List (Str×n7)} {n:Nat} {acc:List (Str×dt)},(∀p∈acc,p.2<n)->(∀x y c,(x,c)∈acc->(y,c)∈acc->x=y)->∀x y c,(x,c)∈k_ n names acc->(y,c)∈k_ n names acc->x=y
 |[],n,acc,_,hi,x,y,c,h1,h2=>hi x y c h1 h2
 | (z,k)::r,n,acc,hl,hi,x,y,c,h1,h2=>by
  unfold k_ at h1 h2;by_cases hk:(k==p8)=bc
  ·rw[if_pos hk]at h1 h2;refine xo (fun p Z=>?_) (fun x y c g1 g2=>?_) x y c h1 h2
   ·rcases Me.mp Z with rfl|Z
    ·exact NM _
    ·exact M3 (hl p Z)
   ·rcases Me.mp g1 with g1|g1<;>rcases Me.mp g2 with g2|g2
    ·rw[<-g2]at g1;exact(Prod.mk.inj g1).1
    ·cases g1;exact absurd (hl _ g2) (Nm _)
    ·cases g2;exact absurd (hl _ g1) (Nm _)
    ·exact hi x y c g1 g2
  ·rw[if_neg hk]at h1 h2;exact xo hl hi x y c h1 h2
theorem tZ:∀{names:List (Str×n7)} {n:Nat} {acc:List (Str×dt)},(∀y∈names,y.2= .cell->y.1≠x)->(k_ n names acc).lookup x=acc.lookup x
 |[],_,_,_=>rfl
 | (z,k)::r,n,acc,h=>by
  unfold k_;split
  ·next hk=>
   rw[tZ fun y Z=>h y (L5 _ Z),MC];have:(x==z)=false:=by
    have:=h (z,k) Md (by simpa using hk)
    simpa using kr this
   rw[this]
  ·exact tZ fun y Z=>h y (L5 _ Z)
theorem t9:∀{names:List (Str×n7)} {h:fg} {acc:List (Str×dt)} {p:Str×dt},p∈k_ h.objs.size names acc->p∈acc\/(pushCells h names).IsCell p.2 none
 |[],h,acc,p,q=>.inl q
 | (x,k)::r,h,acc,p,q=>by
  unfold k_ at q;unfold pushCells;split at q
  ·next hk=>
   rw[if_pos hk];have Z:p∈k_ (h.push {cls:=.type "cell",data:=.cell none}).objs.size r ((x,h.objs.size)::acc):=by rw[M5];exact q
   rcases t9 Z with Z|Z
   ·rcases Me.mp Z with rfl|Z
    ·exact .inr ⟨_,P1 _ _ _ _ (L3 _ rfl),rfl⟩
    ·exact .inl Z
   ·exact .inr Z
  ·next hk=>
   rw[if_neg hk];exact t9 q
theorem xp:∀(names:List (Str×n7)) (n:Nat) (acc:List (Str×dt)),((x,p8)∈names\/∃c,acc.lookup x=ar c/\m<=c)->m<=n->(k_ n names acc).lookup x=ar a->m<=a
 | [],n,acc,h,hm,e=>by
  rcases h with h|⟨c,h2,h3⟩
  ·cases h
  ·have Y:acc.lookup x=ar a:=e;rw[h2]at Y;cases Y;exact h3
 | (z,k)::r,n,acc,h,hm,e=>by
  unfold k_ at e;by_cases hk:(k==p8)=bc
  ·rw[if_pos hk]at e;refine xp r (n+1) _ ?_ (Nat.le_succ_of_le hm) e;by_cases hz:(x==z)=bc
   ·exact .inr ⟨n,by rw[MC,hz],hm⟩
   ·have Z:(x==z)=false:=by simpa using hz
    rcases h with h|⟨c,h2,h3⟩
    ·rcases Me.mp h with h|h
     ·cases h;simp at hz
     ·exact .inl h
    ·exact .inr ⟨c,by rw[MC,Z];exact h2,h3⟩
  ·rw[if_neg hk]at e;refine xp r n acc ?_ hm e;rcases h with h|h
   ·rcases Me.mp h with h|h
    ·cases h;simp at hk
    ·exact .inl h
   ·exact .inr h
theorem Ai{s:b_}{scope:Scope}{env:Env}
  (h:∀h1,h1.Ns s.heap.objs.size (fun _=>none)->(∀b o,s.heap.get? b=ar o->h1.get? b=ar o)->(∀p∈k_ (s.heap.objs.size+1) scope.names cl,p∈cl\/h1.IsCell p.2 none)->
   Q {scope,locals:=s.heap.objs.size,globals:=env.globals,cells:=k_ (s.heap.objs.size+1) scope.names cl,qual:=env.qual,func:=none,code:=env.code,frame:=env.frame,builtins:=env.builtins} {s with heap:=h1}):
  eb M A (newFunctionEnv scope env.globals cl [] env.qual none .none (ar env)) Q E s:=by
 simp only[newFunctionEnv,Option.isSome_some,if_true];refine LP (wpAny_alloc (LP (wpAny_layCells _ (fun name kind cells=>by cases hkc:kind==p8<;>simp[hkc]) _ _ _ _ ?_)))
 have e:({s with heap:=s.heap.push {cls:=.type "dict",data:=.dict #[]}}:b_).heap.objs.size=s.heap.objs.size+1:=M5 ..;rw[e];refine LP (m:=RB [] _ _) (LS (LS (h _ ((Heap.Ns.new s.heap (.type "dict")).keeps (P1 _ _)) (fun b o q=>P1 _ _ b o (LQ _ q)) fun p Z=>?_)));exact t9 (h:=s.heap.push {cls:=.type "dict",data:=.dict #[]}) (by rw[e];exact Z)
def b8(X:Cx)(scope:Scope)(Nc:List Str)(C:dt)(ex:List dt)(s:b_)(H:Hp):Cx:=
 {X with N:=Nc,s₀:=s,H₀:=H,env:=compEnvC scope (k_ (C+1) scope.names (kj X.env.cells scope.names [])) C X.env,outer:=X.stack,stack:=X.stack,ex:=ex,fn:=fun x=>scope.names.lookup x==ar .cell,pn:=[],xe:=fun _ _=>False}
structure CompScope(X:Cx)(scope:Scope)(Nc:List Str)(js:List (Option Nat)):Prop where
 kind:scope.kind= .function
 cel:∀y∈scope.names,y.2= .cell->scope.names.lookup y.1=ar .cell
 loc:∀y∈scope.names,y.2= .local->scope.names.lookup y.1=ar .local
 free:∀y∈scope.names,y.2= .free->X.env.kindOf y.1=ar .cell\/X.env.kindOf y.1=ar .free
 len:js.length=Nc.length
 ix:∀(i:Nat) (x:Str) (j:Nat),Nc[i]? =ar x->js[i]? =ar (ar j)->X.N[j]? =ar x/\scope.names.lookup x=ar .free
def ua(js:List (Option Nat))(σ:St):St:=js.map fun o=>o.bind fun j=>(σ[j]?).join
def Ir(X:Cx)(ifs:List Expr)(t:TT):Prop:=
 ∀(pins:List (dt×Obj)) (s:b_) (σ:St) (H:Hp) (Q:Bool->Hp->Prop),Inv X pins σ H s->t σ H Q->
  eb (e_ X.prog X.w) X.A (RB ifs bc fun c r=>if r=bc then do let ok<-isTrue c X.env (gg c X.env);a_ (A_ ok)else a_ (A_ r)) (TP X pins σ Q) X.xe s
theorem Eg:Ir X [] (fun _ H Q=>Q bc H):=fun pins s σ H Q I h=>wpAny_tests_nil ⟨H,I,h⟩
theorem Eh(h:PT X c t):Ir X [c] t:=fun pins s σ H Q I hw=>wpAny_tests_one (h pins s σ H Q I hw)
def yF(wi:TI)(js:List (Option Nat))(g:TG)(tt:TT)(te:TE):TE:=fun σ H Q=>wi σ H fun J H1=>∀p,H1 p=none->
 ∃W:Nat->Nat->St->Hp->Prop,(∃m,W 0 m (ua js σ) (upd H1 p (.lst [])))/\∀i m σc Hc,W i m σc Hc->
  (J.stop i Hc/\Q (.ref p) Hc)\/(J.go i Hc/\∃N:St->Hp->Prop,(∀ σ' H',N σ' H'->∃m',m'<m/\W (i+1) m' σ' H')/\∀x H',J.yld i Hc x H'->g x σc H' fun σ2 H2=>tt σ2 H2 fun b H3=>
   if b=bc then te σ2 H3 fun y H4=>∃xs,H4 p=ar (.lst xs)/\xs.length<sizeLine/\N σ2 (upd H4 p (.lst (xs++[y])))else N σ2 H3)
section
variable {X:Cx}{scope:Scope}{Nc:List Str}{js:List (Option Nat)}{pins:List (dt×Obj)}{σ:St}{H:Hp}{s:b_}
theorem CompScope.has(c:CompScope X scope Nc js)(Z:X.Ok):∀y∈scope.names,y.2= .free->∃a,X.env.cells.lookup y.1=ar a:=fun y Y e=>Z.has y.1 (c.free y Y e)
theorem xq{K:fg}(c:CompScope X scope Nc js)(I:Inv X pins σ H s)(T:∀b∈ex,nH X pins H b)(O:∀b∈ex,b<s.heap.objs.size)
  (R:C=s.heap.objs.size) (hn:K.Ns C (fun _=>none)) (hs:∀b o,s.heap.get? b=ar o->K.get? b=ar o)
  (w:∀p∈k_ (C+1) scope.names (kj X.env.cells scope.names []),p∈kj X.env.cells scope.names []\/K.IsCell p.2 none):
  Inv (b8 X scope Nc C ex s H) [] (ua js σ) H {s with heap:=K,toks:=tk}:=by
 have Y:=tY (cells:=X.env.cells) scope.names [] (c.has I.ok) (fun _ z=>nomatch z);have P:∀x a,(kj X.env.cells scope.names []).lookup x=ar a->X.env.cells.lookup x=ar a:=fun x a e=>Y _ (lookup_mem e);have A:∀b o,s.heap.get? b=ar o->b≠C:=fun b o e=>by rw[R];exact L7 (LZ e)
 have Q:∀p∈kj X.env.cells scope.names [],p.2<C+1:=fun p t=>by
  obtain⟨v,F,J,_⟩:=I.cell p.1 p.2 (Y p t);rw[R];exact M3 (LZ J)
 have Z:∀x a,(k_ (C+1) scope.names (kj X.env.cells scope.names [])).lookup x=ar a->X.env.cells.lookup x=ar a\/(C<a/\K.IsCell a none):=fun x a e=>by
  have hm:=lookup_mem e;rcases w _ hm with z|z
  ·exact .inl (Y _ z)
  ·rcases xn hm with y|y
   ·exact .inl (Y _ y)
   ·exact .inr ⟨y,z⟩
 refine⟨⟨I.ok.mod,c.kind,I.ok.glob,I.ok.blt,Om R.symm,fun x y a e1 e2=>xo Q (fun x y a e1 e2=>I.ok.inj x y a (Y _ e1) (Y _ e2)) x y a (lookup_mem e1) (lookup_mem e2),fun x L=>?_,fun x a z e=>?_,I.ok.hd,I.ok.frames,.inl rfl,fun b W=>⟨?_,fun x a e z=>?_⟩,
  I.bs,Ma I.ok.bsz I.sz,fun b o e W=>?_,fun b W z=>?_,I.stack,I.stkFree⟩,rfl,I.bare,Un.kept hs,⟨_,hn,fun i x v e1 e2 e3=>?_⟩,fun x a e=>?_,?_,fun x a e=>?_,(fun p t=>nomatch t),I.hok.kept hs,?_⟩
 ·-- names that are cells here have one
  have B:scope.names.lookup x=ar .free\/scope.names.lookup x=ar .cell:=by
   rcases L with L|L
   ·rcases jI (env:=X.env) (names:=scope.names) L with z|⟨_,z⟩
    ·exact .inr z
    ·exact .inl z
   ·rcases jI (env:=X.env) (names:=scope.names) L with z|⟨z,_⟩
    ·exact .inl z
    ·cases z
  refine MO.mp (OB scope.names (C+1) _ ?_);rcases B with z|z
  ·exact .inr (MO.mpr (mem_lookup (kl scope.names [] (.inl (bL z)))))
  ·exact .inl z
 ·-- the block's own cells are new
  have f:scope.names.lookup x=ar .cell:=by
   have:(scope.names.lookup x==ar .cell)=true:=z;simpa using this
  show s.heap.objs.size<=a;rw[<-R];exact OI (xp (m:=C+1) scope.names (C+1) _ (.inl (bL f)) (LU _) e)
 ·show b≠C;rw[R];exact L7 (O b W)
 ·rcases Z x a e with y|⟨y,_⟩
  ·exact(T b W).2.2.2.2.1 x a y z
  ·rw[z,R]at y;exact Nm _ (OP y (O b W))
 ·have:b<X.base.objs.size:=LZ e;rcases (T b W).2.2.2.1 with z|z
  ·exact I.ok.noex b o e z
  ·exact absurd (Mc this (Ma I.ok.bsz z)) (Nm _)
 ·rcases Me.mp (I.stkSub b z)with e|e
  ·exact(T b W).2.1 e
  ·exact(T b W).2.2.1 e
 ·-- the names that are read from around
  have E:Nc[i]? =ar x:=e1;have:∃j,js[i]? =ar (ar j)/\σ[j]? =ar (ar v):=by
   unfold ua at e2;rw[Mi]at e2;cases q:js[i]? with
   |none=>rw[q]at e2;cases e2
   | some o=>
    rw[q]at e2;cases o with
    |none=>cases e2
    |some j=>
     refine⟨j,rfl,?_⟩;have U:(σ[j]?).join=ar v:=Mn e2;cases r:σ[j]? with
     |none=>rw[r]at U;cases U
     |some z=>rw[r]at U;exact N4 ar U
  obtain⟨j,k,hv⟩:=this;obtain⟨d,S⟩:=c.ix i x j E k;obtain⟨m,g,l⟩:=I.loc;have G:=c.free (x,.free) (bL S) rfl;have N:zY X.env.scope x:=by
   rcases G with z|z
   ·exact .inr (.inl z)
   ·exact .inr (.inr z)
  obtain⟨u,h,lk⟩:=l j x v d hv N;refine⟨u,h,.inr ⟨?_,?_⟩⟩
  ·rcases mH (env:=X.env) S with z|z
   ·exact .inl z
   ·exact .inr z
  ·rcases lk with⟨z,_⟩|⟨_,a,ea,ha⟩
   ·rcases G with y|y
    ·rw[show X.env.kindOf x=ar p8 from y]at z;cases z
    ·rw[show X.env.kindOf x=ar hY from y]at z;cases z
   ·obtain⟨b,W⟩:=mem_lookup (kl (cells:=X.env.cells) scope.names [] (.inl (bL S)));have:=P x b W;rw[ea]at this;cases this;obtain⟨F,J,hd⟩:=ha;refine⟨a,?_,F,hs _ _ J,hd⟩;show(k_ (C+1) scope.names (kj X.env.cells scope.names [])).lookup x=ar a;rw[tZ fun y n e z=>by have:=c.cel y n e;rw[z,S]at this;cases this]
    exact W
 ·rcases Z x a e with y|⟨_,y⟩
  ·obtain⟨v,F,J,hd⟩:=I.cell x a y;exact⟨v,F,hs _ _ J,hd⟩
  ·exact⟨_,y⟩
 ·show H C=none;rw[R];exact I.hok.fresh (LU _)
 ·rcases Z x a e with y|⟨y,_⟩
  ·exact I.freeC x a y
  ·exact I.hok.fresh (by rw[<-R];exact Nu y)
 ·show(ua js σ).length=Nc.length;unfold ua;rw[LR];exact c.len
theorem BI(I:Inv X pins σ H s)(R:C=s.heap.objs.size)(Z:∀b∈ex,nH X pins H b)
  (T:Inv (b8 X scope Nc C ex s H) [] σc H' s') (hs:r7 C s'.heap h2):Inv X pins σ H' {s' with heap:=h2}:=by
 have W:∀b o,s.heap.get? b=ar o->b≠C:=fun b o e=>by rw[R];exact L7 (LZ e)
 have B:=T.base;have u:Un (ke X.stack) ex H H' s.heap h2:={
  keep:=fun b o e n Y U=>(hs.2 b (W b o e)).trans (B.keep b o e n Y U)
  slot:=fun b o e n Y U=>by
   obtain⟨P,q⟩:=B.slot b o e n Y U;exact⟨P,(hs.2 b (W b o e)).trans q⟩
  free:=B.free
  there:=fun b o e U=>by
   obtain⟨Q,q⟩:=B.there b o e U;exact⟨Q,(hs.2 b (W b o e)).trans q⟩
  tups:=B.tups
  frzs:=B.frzs
  tbls:=B.tbls}
 refine I.call' (s':={s' with heap:=h2}) (ch:=ex) T.os u (fun b o e=>?_) T.bare fun b Y=>⟨(Z b Y).2.2.2.1,(Z b Y).2.1,(Z b Y).2.2.2.2.1,(Z b Y).2.2.2.2.2⟩;have S:∀b o,H' b=ar o->b≠C:=fun b o e z=>by
  have hf:H' C=none:=T.free;rw[z,hf]at e;cases e
 refine(T.hok b o e).stay (fun d v hd q=>?_) (fun _ q=>q) fun _ _ q=>q;refine(hs.2 d ?_).trans q;rcases hd with z|z
 ·subst z;exact S _ _ e
 ·exact S _ _ z
theorem vB{Q:VK}(G:Option (aC->Sem Unit))(Qr:aC->b_->Prop)(c:CompScope X scope Nc js)(hc:X.calm=bc)(hi:PI X tg iter wi)
  (b1:∀C ex s H,PG (b8 X scope Nc C ex s H) tg g/\Ir (b8 X scope Nc C ex s H) ifs tt/\PE (b8 X scope Nc C ex s H) elt te)
  (I:Inv X pins σ H s) (h:yF wi js g tt te σ H Q)
  (j:∀p C s' S,Q (.ref p) S->(∀B,r7 C s'.heap B->Inv X pins σ S {s' with heap:=B})->(∃m,s'.heap.Ns C m)->nH X pins S C->
   compPost (e_ X.prog X.w) X.A X.xe G Qr (.ref p) C (.ok .next) s')
  (hs:∀x,oo iter X.env x=a_ x:=by intro _;rfl):
  eb (e_ X.prog X.w) X.A (comprehension (.ListComp elt [⟨tg,iter,ifs,0⟩] scope pos) scope X.env pos' (R7 []) c_ (gg iter X.env) G) Qr X.xe s:=by
 refine wpAny_comprehension_free rfl hs (mG scope X.env (c.has I.ok)) c.kind c.loc (eR (hi pins s σ H _ I h) fun v s1 F=>eR F fun c2 s2 B=>?_);obtain⟨it,Y,f,J,U,e,I2,T,k,f2,hW⟩:=B;subst e;refine Mw (Ai fun F K L P=>?_);dsimp only at K L P⊢;obtain⟨W,⟨m0,w0⟩,turn⟩:=hW s2.heap.objs.size (I2.hok.fresh (LU _));have a:Inv X pins σ (upd U s2.heap.objs.size (.lst [])) {s2 with heap:=s2.heap.push {cls:=.type "list",dict:=none,data:=.seq ([]:List aC).toArray}}:=
  I2.laid (t':=s2.toks) (fun _ _ q=>LQ _ q) (LU _) ⟨Mg _,[],0,.nil,L3 _ rfl⟩
 generalize hS3:({s2 with heap:=s2.heap.push {cls:=.type "list",dict:=none,data:=.seq ([]:List aC).toArray}}:b_)=s3 at a;have e3:s3.heap=s2.heap.push {cls:=.type "list",dict:=none,data:=.seq ([]:List aC).toArray}:=by rw[<-hS3]
 rw[<-e3]at K L P⊢;generalize hp:s2.heap.objs.size=p at*;have l:∀b∈Y,b<p:=fun b Z=>by
  obtain⟨o,e,_⟩:=T.obj _ _ k b Z;rw[<-hp];exact LZ e
 have b4:∀b∈Y,b≠p:=fun b Z=>L7 (l b Z);have f3:∀b∈Y,nH X pins (upd U p (.lst [])) b:=fun b Z=>⟨by rw[aI (b4 b Z)];exact(f2 b Z).1,(f2 b Z).2⟩
 have t:s3.heap.objs.size=p+1:=by rw[e3,M5,hp]
 have E:∀b∈Y,b<s3.heap.objs.size:=fun b Z=>by rw[t];exact M3 (l b Z)
 have O:∀b o,s3.heap.get? b=ar o->F.get? b=ar o:=L;have a0:f 0 F:=T.keep _ _ _ k fun b Z o e=>O b o (by rw[e3];exact LQ _ e)
 generalize hC:s3.heap.objs.size=C at*;have b2:F.Ns C (fun _=>none):=by simpa using K
 have start:∀tk,Inv (b8 X scope Nc C Y s3 (upd U p (.lst []))) [] (ua js σ) (upd U p (.lst [])) {s3 with heap:=F,toks:=tk}:=fun tk=>xq c a f3 (fun b Z=>by rw[hC];exact E b Z) hC.symm b2 O P
 have ok:=(start 0).ok;have R:∀{S:Hp},(∀b∈Y,S b=none)->∀b∈Y,nH (b8 X scope Nc C Y s3 (upd U p (.lst []))) [] S b:=fun hn b Z=>
  ⟨hn b Z,(ok.exf b Z).1,ok.exfs b Z,.inl Z,(ok.exf b Z).2,fun _ z=>nomatch z⟩
 obtain⟨hG,hT,hE⟩:=b1 C Y s3 (upd U p (.lst []));have loop:∀s':b_,Inv (b8 X scope Nc C Y s3 (upd U p (.lst []))) [] (ua js σ) (upd U p (.lst [])) s'->f 0 s'.heap->
   B_ (e_ X.prog X.w) X.A (.compLoop (.ListComp elt [⟨tg,iter,ifs,0⟩] scope pos) 0 (.ref it) (.ref p) (b8 X scope Nc C Y s3 (upd U p (.lst []))).env) (compPost (e_ X.prog X.w) X.A X.xe G Qr (.ref p) C) s':=by
  intro s' I' a4;refine codeAny_loop rfl (fun n s'=>∃i σ' S,Inv (b8 X scope Nc C Y s3 (upd U p (.lst []))) [] σ' S s'/\f i s'.heap/\(∀b∈Y,S b=none)/\W i n σ' S) ?_ m0 ⟨0,_,_,I',a4,fun b Z=>(f3 b Z).1,w0⟩;rintro n s4 ⟨i,σ4,H4,I4,st4,fr4,w4⟩;show eb _ X.A ((compTurn (.ListComp elt [⟨tg,iter,ifs,0⟩] scope pos) 0 (.ref it) (.ref p) (b8 X scope Nc C Y s3 (upd U p (.lst []))).env).onRaise (fun x=>do Qx x (b8 X scope Nc C Y s3 (upd U p (.lst []))).env;theTreesLotGoes x)) _ _ s4
  refine wpAny_noted ?_;rw[compTurn_list];refine LP (M7 (LP ?_));rcases turn i n σ4 H4 w4 with⟨stop,qn⟩|⟨go,N,hN,step⟩
  ·refine MJ (T.done (b8 X scope Nc C Y s3 (upd U p (.lst []))) rfl rfl rfl hc i [] s4 σ4 H4 (fun _ _=>False) I4 (R fr4) st4 stop) (fun r s5 ⟨hr,I5⟩=>?_) fun _ _ z=>z.elim;subst hr;refine LS (j p C s5 H4 qn (fun B a5=>BI a hC.symm f3 I5 a5) ?_ (a.fpOk (Om hC) I5.free));obtain⟨m,hm,_⟩:=I5.loc;exact⟨m,hm⟩
  ·refine MJ (T.item (b8 X scope Nc C Y s3 (upd U p (.lst []))) rfl rfl rfl hc i [] s4 σ4 H4 (fun _ _=>False) I4 (R fr4) st4 go) (fun r s5 ⟨u,hr,h5⟩=>?_) fun _ _ z=>z.elim;subst hr;refine LP (MJ h5 (fun _ s6 ⟨x,H6,I6,r6,y6,st6,fr6⟩=>?_) fun _ _ z=>z.elim);have b0:=I6.pinned (R fr6) (T.obj _ _ st6);refine LP (MJ (hG _ s6 σ4 H6 x u _ b0 r6 (step x H6 y6)) (fun _ s7 ⟨σ7,H7,I7,q7⟩=>?_) fun _ _ z=>z.elim);refine LP (MJ (hT _ s7 σ7 H7 _ I7 q7) (fun b s8 ⟨H8,I8,q8⟩=>?_) fun _ _ z=>z.elim);have Ri:∀{σ9:St} {H9:Hp} {s9:b_},Inv (b8 X scope Nc C Y s3 (upd U p (.lst []))) ([]++pV Y s6.heap) σ9 H9 s9->N σ9 H9->
     ∃m,m<n/\∃i σ' S,Inv (b8 X scope Nc C Y s3 (upd U p (.lst []))) [] σ' S s9/\f i s9.heap/\(∀b∈Y,S b=none)/\W i m σ' S:=fun{σ9 H9 s9} I9 n9=>by
    obtain⟨m',hm,w9⟩:=hN σ9 H9 n9;refine⟨m',hm,i+1,σ9,H9,I9.unpinned,T.keep _ _ _ st6 fun b Z o e=>(I9.pin (b,o) (Mt _ (Mt _ (jG Z e)))).1,fun b Z=>?_,w9⟩;obtain⟨o,e,d⟩:=T.obj _ _ st6 b Z;exact(I9.pin (b,o) (Mt _ (Mt _ (jG Z e)))).2.1
   cases b with
   |false=>exact LS ⟨rfl,Ri I8 q8⟩
   |true=>
    refine LP (LP (MJ (hE _ s8 σ7 H8 _ I8 q8) (fun y s9 ⟨yv,H9,I9,r9,q9⟩=>?_) fun _ _ z=>z.elim));obtain⟨xs,hx,hl,n9⟩:=q9;refine LP (MJ (sy (X:=b8 X scope Nc C Y s3 (upd U p (.lst []))) _ s9 σ7 H9 (.ref p) [yv] (.ref p) [y] (fun _ S=>N σ7 S) I9 rfl (.cons r9 .nil) ⟨p,xs,yv,rfl,rfl,hx,hl,n9⟩) (fun _ s10 ⟨_,H10,I10,_,q10⟩=>?_) fun _ _ z=>z.elim);exact LS (LS ⟨rfl,Ri I10 q10⟩)
 refine codeAny_compStart_list (loop _ ?_ ?_) (T.self _ 0 _ _ _ ?_ (loop _ ?_ ?_))
 all_goals first
  |exact a0
  |(subst hS3;exact start _)
theorem Ei(c:CompScope X scope Nc js)(U:X.calm=bc)(hi:PI X tg iter wi)
  (Y:∀C ex s H,PG (b8 X scope Nc C ex s H) tg g/\Ir (b8 X scope Nc C ex s H) ifs tt/\PE (b8 X scope Nc C ex s H) elt te)
  (hs:∀x,oo iter X.env x=a_ x:=by intro _;rfl):PE X (.ListComp elt [⟨tg,iter,ifs,0⟩] scope pos) (yF wi js g tt te):=by
 intro pins s σ H Q I h;rw[eval_ListComp];refine vB none _ c U hi Y I h (fun p C s' S q T R _=>?_) hs;obtain⟨m,hm⟩:=R;exact⟨m,hm,fun W Z=>⟨.ref p,S,T W Z,rfl,q⟩⟩
theorem xr{pos:Pos}(O:X.N.Nodup)(T:X.N[i]? =ar x)(L:Loc X.env.scope x)
  (c:CompScope X scope Nc js) (P:X.calm=bc) (hi:PI X tg iter wi)
  (W:∀C ex s H,PG (b8 X scope Nc C ex s H) tg g/\Ir (b8 X scope Nc C ex s H) ifs tt/\PE (b8 X scope Nc C ex s H) elt te)
  (U:ly (.ListComp elt [⟨tg,iter,ifs,0⟩] scope cpos) (ar (.Name x pos')) pos.line X.env=a_ true:=by rfl)
  (K:X.fn x=bc\/X.env.scope.names.lookup x=ar .local:=by first|exact .inl rfl|exact .inr rfl|assumption)
  (hs:∀x,oo iter X.env x=a_ x:=by intro _;rfl):PS X (.Assign [.Name x pos'] (.ListComp elt [⟨tg,iter,ifs,0⟩] scope cpos) pos) (Gy (yF wi js g tt te) (Bj i)):=by
 intro pins s σ H D I h;rw[exec_Assign_Name_used _ _ _ _ U];refine LP (M7 (LP ?_));show eb _ X.A (do let _<-comprehension (.ListComp elt [⟨tg,iter,ifs,0⟩] scope cpos) scope X.env _ (R7 []) c_ (gg iter X.env) (ar (Qb (.Name x pos') X.env))) _ _ s
 refine LP (eR (vB (ar (Qb (.Name x pos') X.env)) (fun _ s'=>SP X pins D .next s') c P hi W I h (fun p C s' S q R G Z=>?_) hs) fun _ s' q=>LS (LS q));obtain⟨m,hm⟩:=G;have F:Inv X pins σ S s':=R s'.heap (.refl ..);refine wpAny_assign_Name (sj F O T L (v:=.ref p) rfl (fun s'' I'' ⟨a,hsb,ha⟩=>?_) K);have J:C≠a:=by
  rcases ha with z|z
  ·rw[z];exact Z.2.1
  ·exact fun e=>Z.2.2.2.2.1 x a z e.symm
 refine⟨m,hm.sameBut hsb J,fun E Y=>?_⟩;exact⟨_,S,I''.turned (t':=s''.toks) (it:=C) (fun b o Q e=>(Y.2 b Q).trans e) Z.1 Z.2.1 Z.2.2.2.1 Z.2.2.2.2.1 Z.2.2.2.2.2,q⟩
end
inductive D where
 |non|bl (b:Bool)|int (i:Int)|str (x:Str)|tup (ds:List D)|lst (k:Nat)|ro (ds:List D)|emp
 |fn (a c:dt) (q:Str) (ds:List D) (vs:List V)|exc (x:Str) (ds:List D)
 |fz (ds:List D)
abbrev aF:=List (List D)
inductive Res(α:Type) where
 |ok (a:α)|ex (x:D)
def M(α:Type):=aF->Option (Res α×aF)
namespace M
def ret{α:Type}(a:α):M α:=fun S=>ar (.ok a,S)
def bnd{α β:Type}(m:M α)(f:α->M β):M β:=fun S=>match m S with
 |some (.ok a,S')=>f a S'
 |some (.ex x,S')=>ar (.ex x,S')
 |none=>none
def fail{α:Type}:M α:=fun _=>none
def raise{α:Type}(x:D):M α:=fun S=>ar (.ex x,S)
noncomputable instance:Monad M where
 pure:=ret
 bind:=bnd
end M
def LD(K:dV)(a:dt)(xs:List V):Prop:=∃(o:Obj) (its:Array aC) (n:Nat),K.lookup a=ar o/\o.cls= .type "list"/\o.dict=none/\o.data= .seq its n/\its.size<=sizeLine/\bh xs its.toList
def DR(K:dV)(H:Hp)(a:dt)(vs:List V):Prop:=(∃o,H a=ar (.frz o (.lst vs)))\/LD K a vs
theorem DR.sq{K:dV}{H:Hp}{a:dt}{vs:List V}(h:DR K H a vs):kg K H a vs:=h.imp (fun⟨o,e⟩=>.inr ⟨o,e⟩) fun z=>z
def mI(C a:dt)(od:Option dt):fg->Prop:=fun h=>∃oe vs,h.get? a=ar oe/\oe.cls= .ref C/\oe.dict=od/\oe.data= .fields vs
def rP(qual:Str)(c:dt):fg->Prop:=fun h=>h.CodeRec (.ref c) qual
def cI:List Str:=["law","_law_within_right","_law_refusals_right","_law_sharings_right","_law_right","_law_lists_right","_law_papers_right","_law_great_right","_law_told_right","_law_desks_right","_law_texts_right"]
def TabsOk(K:dV)(H:Hp):Prop:=∀x∈cI,∀c P,mv K x=ar (c,P)->∃ps,H P=ar (.tbl ps)/\RC ps.toList/\
 ∀pos cv,L0 pos ps.toList=ar cv->∃c',cv= .ref c'/\H c'=ar (.ext (rP (x++".<locals>.<lambda>") c'))
theorem TabsOk.mono{K:dV}{H Z:Hp}(h:TabsOk K H)(k:∀a o,H a=ar o->(∀vs,o≠ .lst vs)->Z a=ar o):TabsOk K Z:=fun x Y c P e=>
 let ⟨ps,h1,h2,h3⟩:=h x Y c P e
 ⟨ps,k _ _ h1 (by intro _ z;cases z),h2,fun pos cv q=>let ⟨c',e1,e2⟩:=h3 pos cv q;⟨c',e1,k _ _ e2 (by intro _ z;cases z)⟩⟩
mutual
inductive RelD(K:dV)(ι:List dt)(H:Hp):D->V->Prop where
 |non:RelD K ι H .non .non
 |bl (b:Bool):RelD K ι H (.bl b) (.bl b)
 |int (i:Int):RelD K ι H (.int i) (.int i)
 |str (x:Str):RelD K ι H (.str x) (.str x)
 |tup {a:dt} {ds:List D} {vs:List V}:H a=ar (.tup vs)->RelDs K ι H ds vs->RelD K ι H (.tup ds) (.ref a)
 |lst {a:dt} {k:Nat}:ι[k]? =ar a->RelD K ι H (.lst k) (.ref a)
 |ro {a:dt} {ds:List D} {vs:List V}:DR K H a vs->RelDs K ι H ds vs->RelD K ι H (.ro ds) (.ref a)
 |emp {a:dt}:H a=ar (.dK [])->RelD K ι H .emp (.ref a)
 |fn {a c:dt} {q:Str} {ds:List D} {vs:List V}:H c=ar (.ext (rP q c))->RelDs K ι H ds vs->RelD K ι H (.fn a c q ds vs) (.ref a)
 |exc {a C:dt} {x:Str}:pb K f' x=ar (ar (.ref C))->H a=ar (.ext (mI C a none))->RelD K ι H (.exc x []) (.ref a)
 |excF {a C dx:dt} {x:Str} {fs:List (Str×V)} {ds:List D}:pb K f' x=ar (ar (.ref C))->H a=ar (.ext (mI C a (ar dx)))->H dx=ar (.xd fs)->fs.map (·.1)=([("many":Str),("most":Str)]:List Str)->RelDs K ι H ds (fs.map (·.2))->RelD K ι H (.exc x ds) (.ref a)
 |fz {a:dt} {o:Obj} {ds:List D} {vs:List V}:H a=ar (.frz o (.lst vs))->RelDs K ι H ds vs->RelD K ι H (.fz ds) (.ref a)
inductive RelDs(K:dV)(ι:List dt)(H:Hp):List D->List V->Prop where
 |nil:RelDs K ι H [] []
 |cons {d:D} {v:V} {ds:List D} {vs:List V}:RelD K ι H d v->RelDs K ι H ds vs->RelDs K ι H (d::ds) (v::vs)
end
structure Rep(K:dV)(ι:List dt)(H:Hp)(S:aF):Prop where
 nd:ι.Nodup
 len:ι.length=S.length
 get:∀(k:Nat) (a:dt) (xs:List D),ι[k]? =ar a->S[k]? =ar xs->∃vs,H a=ar (.lst vs)/\RelDs K ι H xs vs
 tab:TabsOk K H
structure Ext(ι:List dt)(H:Hp)(ι':List dt)(H':Hp):Prop where
 ids:∃more,ι'=ι++more
 oth:∀a o,H a=ar o->a∉ι->(∀ps,o≠ .tbl ps)->H' a=ar o/\a∉ι'
structure ExtN(ι:List dt)(H:Hp)(ι':List dt)(H':Hp):Prop where
 ids:∃more,ι'=ι++more
 oth:∀a o,H a=ar o->a∉ι->(∀ps,o≠ .tbl ps)->(∀vs,o≠ .lst vs)->H' a=ar o/\a∉ι'
theorem Ext.n{ι Z:List dt}{H Y:Hp}(e:Ext ι H Z Y):ExtN ι H Z Y:=⟨e.ids,fun a o h n t _=>e.oth a o h n t⟩
theorem Ext.refl{ι:List dt}{H:Hp}:Ext ι H ι H:=⟨⟨[],by simp⟩,fun _ _ h n _=>⟨h,n⟩⟩
theorem Ext.trans{ι Z Y:List dt}{H X W:Hp}(a:Ext ι H Z X)(b:Ext Z X Y W):Ext ι H Y W:=by
 obtain⟨U,e1⟩:=a.ids;obtain⟨T,e2⟩:=b.ids;exact⟨⟨U++T,by rw[e2,e1,Mr]⟩,fun c o h n t=>let ⟨h1,n1⟩:=a.oth c o h n t;b.oth c o h1 n1 t⟩
theorem ExtN.at{ι Z:List dt}{H X:Hp}(e:ExtN ι H Z X){k:Nat}{a:dt}(h:ι[k]? =ar a):Z[k]? =ar a:=by
 obtain⟨m,rfl⟩:=e.ids;have Y:k<ι.length:=(LX.mp h).1;rw[Mv Y];exact h
section
variable {K:dV}{ι ι':List dt}{H H':Hp}{S:aF}
theorem Rep.isL(r:Rep K ι H S)(h:a∈ι):∃vs,H a=ar (.lst vs):=by
 obtain⟨k,Y,e⟩:=OV.mp h;have Z:k<S.length:=by rw[<-r.len];exact Y
 obtain⟨vs,X,_⟩:=r.get k a (S[k]) (by rw[LV Y,e]) (LV Z)
 exact⟨vs,X⟩
theorem Rep.notIn(r:Rep K ι H S)(h:H a=ar o)(Z:∀vs,o≠ .lst vs):a∉ι:=fun z=>by
 obtain⟨vs,e⟩:=r.isL z;rw[h]at e;exact Z vs (Mn e)
theorem Rep.free(r:Rep K ι H S)(h:H a=none):a∉ι:=fun z=>by
 obtain⟨vs,e⟩:=r.isL z;rw[h]at e;cases e
mutual
theorem RelD.laterN(r:Rep K ι H S)(e:ExtN ι H ι' H'):∀{d:D} {v:V},RelD K ι H d v->RelD K ι' H' d v
 |_,_,.non=>.non
 |_,_,.bl b=>.bl b
 |_,_,.int i=>.int i
 |_,_,.str x=>.str x
 |_,_,.tup h hs=>.tup (e.oth _ _ h (r.notIn h (by intro _ z;cases z)) (by intro _ z;cases z) (by intro _ z;cases z)).1 (RelDs.laterN r e hs)
 |_,_,.lst h=>.lst (e.at h)
 |_,_,.ro h hs=>.ro (h.imp (fun⟨o,h⟩=>⟨o,(e.oth _ _ h (r.notIn h (by intro _ z;cases z)) (by intro _ z;cases z) (by intro _ z;cases z)).1⟩) fun z=>z) (RelDs.laterN r e hs)
 |_,_,.emp h=>.emp (e.oth _ _ h (r.notIn h (by intro _ z;cases z)) (by intro _ z;cases z) (by intro _ z;cases z)).1
 |_,_,.fn h hs=>.fn (e.oth _ _ h (r.notIn h (by intro _ z;cases z)) (by intro _ z;cases z) (by intro _ z;cases z)).1 (RelDs.laterN r e hs)
 |_,_,.exc n h=>.exc n (e.oth _ _ h (r.notIn h (by intro _ z;cases z)) (by intro _ z;cases z) (by intro _ z;cases z)).1
 |_,_,.excF n h h2 hn hs=>.excF n (e.oth _ _ h (r.notIn h (by intro _ z;cases z)) (by intro _ z;cases z) (by intro _ z;cases z)).1 (e.oth _ _ h2 (r.notIn h2 (by intro _ z;cases z)) (by intro _ z;cases z) (by intro _ z;cases z)).1 hn (RelDs.laterN r e hs)
 |_,_,.fz h hs=>.fz (e.oth _ _ h (r.notIn h (by intro _ z;cases z)) (by intro _ z;cases z) (by intro _ z;cases z)).1 (RelDs.laterN r e hs)
theorem RelDs.laterN(r:Rep K ι H S)(e:ExtN ι H ι' H'):∀{ds:List D} {vs:List V},RelDs K ι H ds vs->RelDs K ι' H' ds vs
 |_,_,.nil=>.nil
 |_,_,.cons h hs=>.cons (RelD.laterN r e h) (RelDs.laterN r e hs)
end
theorem RelD.later(r:Rep K ι H S)(e:Ext ι H ι' H'){d:D}{v:V}(h:RelD K ι H d v):RelD K ι' H' d v:=RelD.laterN r e.n h
theorem RelDs.later(r:Rep K ι H S)(e:Ext ι H ι' H'){ds:List D}{vs:List V}(h:RelDs K ι H ds vs):RelDs K ι' H' ds vs:=RelDs.laterN r e.n h
theorem RelDs.length:∀{ds:List D} {vs:List V},RelDs K ι H ds vs->ds.length=vs.length
 |_,_,.nil=>rfl
 |_,_,.cons _ t=>by rw[Ml,Ml,RelDs.length t]
theorem RelDs.append:∀{ds es:List D} {vs ws:List V},RelDs K ι H ds vs->RelDs K ι H es ws->RelDs K ι H (ds++es) (vs++ws)
 |_,_,_,_,.nil,s=>s
 |_,_,_,_,.cons r t,s=>.cons r (RelDs.append t s)
theorem RelDs.get':∀{ds:List D} {vs:List V} {i:Nat} {d:D},RelDs K ι H ds vs->ds[i]? =ar d->∃v,vs[i]? =ar v/\RelD K ι H d v
 |_,_,_,_,.nil,e=>by simp at e
 |_,_,0,_,.cons r _,e=>by simp at e;subst e;exact⟨_,rfl,r⟩
 |_,_,i+1,v,.cons _ t,e=>by
  obtain⟨u,Y,Z⟩:=RelDs.get' (i:=i) t (by simpa using e)
  exact⟨u,by simpa using Y,Z⟩
theorem RelDs.take:∀{ds:List D} {vs:List V} (n:Nat),RelDs K ι H ds vs->RelDs K ι H (ds.take n) (vs.take n)
 |_,_,0,_=>.nil
 |_,_,_+1,.nil=>.nil
 |_,_,n+1,.cons r t=>.cons r (RelDs.take n t)
theorem RelDs.drop:∀{ds:List D} {vs:List V} (n:Nat),RelDs K ι H ds vs->RelDs K ι H (ds.drop n) (vs.drop n)
 |_,_,0,r=>r
 |_,_,_+1,.nil=>.nil
 |_,_,n+1,.cons _ t=>RelDs.drop n t
theorem RelDs.set(r:RelD K ι H d v):∀{ds:List D} {vs:List V} (i:Nat),RelDs K ι H ds vs->RelDs K ι H (ds.set i d) (vs.set i v)
 |_,_,_,.nil=>.nil
 |_,_,0,.cons _ t=>.cons r t
 |_,_,i+1,.cons q t=>.cons q (RelDs.set r i t)
theorem RelDs.eraseIdx:∀{ds:List D} {vs:List V} (i:Nat),RelDs K ι H ds vs->RelDs K ι H (ds.eraseIdx i) (vs.eraseIdx i)
 |_,_,_,.nil=>.nil
 |_,_,0,.cons _ t=>t
 |_,_,i+1,.cons q t=>.cons q (RelDs.eraseIdx i t)
theorem RelDs.reverse:∀{ds:List D} {vs:List V},RelDs K ι H ds vs->RelDs K ι H ds.reverse vs.reverse
 |_,_,.nil=>.nil
 |_,_,.cons r t=>by rw[OH,OH];exact(RelDs.reverse t).append (.cons r .nil)
theorem fi(Z:H p=none):Ext ι H ι (upd H p o):=⟨⟨[],by simp⟩,fun a Y h n _=>⟨by rw[aI (aR h Z)];exact h,n⟩⟩
theorem gf{p:dt}{o:HO}(r:Rep K ι H S)(Z:H p=none):Rep K ι (upd H p o) S:=by
 refine⟨r.nd,r.len,fun k a xs e1 e2=>?_,r.tab.mono fun b o h _=>by rw[aI (aR h Z)];exact h⟩
 obtain⟨vs,Y,X⟩:=r.get k a xs e1 e2;exact⟨vs,by rw[aI (aR Y Z)];exact Y,RelDs.later r (fi Z) X⟩
theorem vC(Z:H p=none):Ext ι H (ι++[p]) (upd H p o):=⟨⟨[p],rfl⟩,fun a Y h n _=>⟨by rw[aI (aR h Z)];exact h,by
 have:a≠p:=aR h Z;simp[n,this]⟩⟩
theorem BJ{p:dt}{xs:List D}{vs:List V}(r:Rep K ι H S)(Z:H p=none)(h:RelDs K ι H xs vs):Rep K (ι++[p]) (upd H p (.lst vs)) (S++[xs]):=by
 have X:Ext ι H (ι++[p]) (upd H p (.lst vs)):=vC Z;refine⟨?_,by simp[r.len],fun k a ys e1 e2=>?_,r.tab.mono fun b o h _=>by rw[aI (aR h Z)];exact h⟩
 ·rw[Pu];refine⟨r.nd,by simp,fun a R b Q=>?_⟩
  have:b=p:=by simpa using Q
  subst this;rintro rfl;exact r.free Z R
 ·by_cases hk:k<ι.length
  ·rw[Mv hk]at e1;rw[Mv (by rw[<-r.len];exact hk)]at e2
   obtain⟨ws,U,T⟩:=r.get k a ys e1 e2;exact⟨ws,by rw[aI (aR U Z)];exact U,RelDs.later r X T⟩
  ·have Y:k<(ι++[p]).length:=(LX.mp e1).1;have:k=ι.length:=by simp at Y;omega
   subst this;simp at e1;rw[r.len]at e2;simp at e2;subst e1 e2;exact⟨vs,aV,RelDs.later r X h⟩
theorem qe:∀{l:List dt} {i j:Nat} {a:dt},l.Nodup->l[i]? =ar a->l[j]? =ar a->i=j
 |[],i,j,a,_,h,_=>by simp at h
 |x::r,0,0,a,_,_,_=>rfl
 |x::r,0,j+1,a,hn,h1,h2=>by
  simp at h1 h2;subst h1;exact absurd (Mx h2) (MM.mp hn).1
 |x::r,i+1,0,a,hn,h1,h2=>by
  simp at h1 h2;subst h2;exact absurd (Mx h1) (MM.mp hn).1
 |x::r,i+1,j+1,a,hn,h1,h2=>by
  simp at h1 h2;rw[qe (MM.mp hn).2 h1 h2]
theorem ub(Z:a∈ι):Ext ι H ι (upd H a o):=⟨⟨[],by simp⟩,fun b Y h n _=>⟨by rw[aI (fun z=>n (by rw[z];exact Z))];exact h,n⟩⟩
theorem uc{a:dt}{k:Nat}{xs:List D}{vs:List V}(r:Rep K ι H S)(Z:ι[k]? =ar a)(h:RelDs K ι H xs vs):Rep K ι (upd H a (.lst vs)) (S.set k xs):=by
 have X:a∈ι:=Mx Z;have Y:Ext ι H ι (upd H a (.lst vs)):=ub X;refine⟨r.nd,by simp[r.len],fun j b ys e1 e2=>?_,r.tab.mono fun b o h n=>by
  obtain⟨ws,hw⟩:=r.isL X;rw[aI (fun z=>by subst z;rw[h]at hw;exact n ws (Mn hw))];exact h⟩
 by_cases hj:j=k
 ·subst hj;rw[Z]at e1;cases e1;have T:j<S.length:=by rw[<-r.len];exact(LX.mp Z).1
  rw[Mo T]at e2;cases e2;exact⟨vs,aV,RelDs.later r Y h⟩
 ·rw[MW (kr hj)]at e2;obtain⟨ws,R,U⟩:=r.get j b ys e1 e2;have Q:b≠a:=by
   rintro rfl;exact hj (qe r.nd e1 Z)
  exact⟨ws,by rw[aI Q];exact R,RelDs.later r Y U⟩
end
abbrev XD:=D->List dt->aF->Hp->Prop
def cont(K:dV)(E:XD){α:Type}(c:M α)(ι:List dt)(S:aF)(H:Hp)(Q:α->List dt->aF->Hp->Prop):Prop:=
 ∃r S',c S=ar (r,S')/\∀ ι' H',Ext ι H ι' H'->Rep K ι' H' S'->match r with
  | .ok a=>Q a ι' S' H'
  | .ex x=>E x ι' S' H'
section
variable {K:dV}{E:XD}{ι:List dt}{S:aF}{H:Hp}{α β:Type}
theorem aq{c:M α}{f:α->M β}{Q:β->List dt->aF->Hp->Prop}(h:cont K E (c>>=f) ι S H Q):cont K E c ι S H (fun a Z S1 X=>cont K E (f a) Z S1 X Q):=by
 obtain⟨r,R,e,k⟩:=h;have Y:M.bnd c f S=ar (r,R):=e;unfold M.bnd at Y;cases q:c S with
 |none=>rw[q]at Y;cases Y
 | some p=>
  obtain⟨N,S1⟩:=p;rw[q]at Y;cases N with
  |ok a=>exact⟨.ok a,S1,q,fun Z X U rep1=>⟨r,R,Y,fun T O P rep2=>k T O (U.trans P) rep2⟩⟩
  |ex x=>
   cases Y;exact⟨.ex x,_,q,fun Z X U rep1=>k Z X U rep1⟩
theorem az{c:M α}{Q T:α->List dt->aF->Hp->Prop}(h:cont K E c ι S H Q)(k:∀a ι' Z H',Ext ι H ι' H'->Rep K ι' H' Z->Q a ι' Z H'->T a ι' Z H'):cont K E c ι S H T:=by
 obtain⟨r,Z,e,q⟩:=h;refine⟨r,Z,e,fun Y U X rep1=>?_⟩;have:=q Y U X rep1;cases r with
 |ok a=>exact k a Y Z U X rep1 this
 |ex x=>exact this
theorem aj{a:α}{Q:α->List dt->aF->Hp->Prop}(h:cont K E (a_ a) ι S H Q){Z:List dt}{Y:Hp}(x:Ext ι H Z Y)(r:Rep K Z Y S):Q a Z S Y:=by
 obtain⟨U,X,e,q⟩:=h;cases e;exact q Z Y x r
theorem ah{Q:α->List dt->aF->Hp->Prop}(h:cont K E (M.fail) ι S H Q):False:=by
 obtain⟨Y,Z,e,q⟩:=h;cases e
end
abbrev aQ:=List (Option D)
inductive RelE(K:dV)(ι:List dt)(H:Hp):aQ->St->Prop where
 |nil:RelE K ι H [] []
 |cons {o:Option D} {u:Option V} {ρ:aQ} {σ:St}:(∀d,o=ar d->∃v,u=ar v/\RelD K ι H d v)->RelE K ι H ρ σ->RelE K ι H (o::ρ) (u::σ)
section
variable {K:dV}{ι ι':List dt}{S:aF}{H H':Hp}
theorem RelE.later(r:Rep K ι H S)(e:Ext ι H ι' H'):∀{ρ:aQ} {σ:St},RelE K ι H ρ σ->RelE K ι' H' ρ σ
 |_,_,.nil=>.nil
 |_,_,.cons h t=>.cons (fun d z=>let ⟨v,e1,e2⟩:=h d z;⟨v,e1,RelD.later r e e2⟩) (RelE.later r e t)
theorem RelE.get:∀{ρ:aQ} {σ:St} {i:Nat} {d:D},RelE K ι H ρ σ->ρ[i]? =ar (ar d)->∃v,σ[i]? =ar (ar v)/\RelD K ι H d v
 |_,_,_,_,.nil,e=>by simp at e
 |_,_,0,_,.cons h _,e=>by
  simp at e;obtain⟨v,e1,e2⟩:=h _ e;exact⟨v,by simp[e1],e2⟩
 |_,_,i+1,_,.cons _ t,e=>by
  obtain⟨v,Y,Z⟩:=RelE.get (i:=i) t (by simpa using e)
  exact⟨v,by simpa using Y,Z⟩
theorem RelE.set(r:RelD K ι H d v):∀{ρ:aQ} {σ:St} (i:Nat),RelE K ι H ρ σ->RelE K ι H (ρ.set i (ar d)) (σ.set i (ar v))
 |_,_,_,.nil=>.nil
 |_,_,0,.cons _ t=>.cons (fun d' z=>by cases z;exact⟨v,rfl,r⟩) t
 |_,_,i+1,.cons q t=>.cons q (RelE.set r i t)
theorem RelE.start:∀{ds:List D} {vs:List V},RelDs K ι H ds vs->∀n,RelE K ι H (ds.map ar++l3 n none) (vs.map ar++l3 n none)
 |_,_,.nil,n=>by
  induction n with
  |zero=>exact .nil
  |succ n ih=>exact .cons (fun d z=>by cases z) ih
 |_,_,.cons r t,n=>.cons (fun d z=>by cases z;exact⟨_,rfl,r⟩) (RelE.start t n)
end
abbrev TM:=aQ->M D
def kT(K:dV)(Q:VK):D->List dt->aF->Hp->Prop:=fun d ι' _ H'=>∀v,RelD K ι' H' d v->Q v H'
def tM(K:dV)(E:XD)(m:TM):TE:=fun σ H Q=>∃ ι S ρ,Rep K ι H S/\RelE K ι H ρ σ/\cont K E (m ρ) ι S H (kT K Q)
def SE(X:Cx)(E:XD)(e:Expr)(m:TM):Prop:=PE X e (tM X.K E m)
def GZ(K:dV)(E:XD)(m:aQ->M Bool):TT:=fun σ H Q=>∃ ι S ρ,Rep K ι H S/\RelE K ι H ρ σ/\cont K E (m ρ) ι S H (fun b _ _ H'=>Q b H')
def SB(X:Cx)(E:XD)(e:Expr)(m:aQ->M Bool):Prop:=PT X e (GZ X.K E m)
def G0(X:Cx)(E:XD)(e:Expr)(m:aQ->M Bool):Prop:=PW X e (GZ X.K E m)
def KY(K:dV)(E:XD)(m:aQ->M (List D)):TA:=fun σ H Q=>∃ ι S ρ,Rep K ι H S/\RelE K ι H ρ σ/\cont K E (m ρ) ι S H (fun ds ι' _ H'=>∀vs,RelDs K ι' H' ds vs->Q vs H')
def SA(X:Cx)(E:XD)(es:List Expr)(m:aQ->M (List D)):Prop:=PA X es (KY X.K E m)
inductive Out where
 |nx (ρ:aQ)|ret (d:D)|bk (ρ:aQ)|ct (ρ:aQ)
abbrev cJ:=aQ->M Out
def G1(K:dV)(T:Ends):Out->List dt->aF->Hp->Prop:=fun o ι' _ H'=>match o with
 | .nx ρ=>∀ σ,RelE K ι' H' ρ σ->T.nx σ H'
 | .ret d=>∀v,RelD K ι' H' d v->T.rt v H'
 | .bk ρ=>∀ σ,RelE K ι' H' ρ σ->T.bk σ H'
 | .ct ρ=>∀ σ,RelE K ι' H' ρ σ->T.ct σ H'
def Ln(K:dV)(E:XD)(m:cJ):TS:=fun T σ H=>∃ ι S ρ,Rep K ι H S/\RelE K ι H ρ σ/\cont K E (m ρ) ι S H (G1 K T)
def SS(X:Cx)(E:XD)(st:p4)(m:cJ):Prop:=PS X st (Ln X.K E m)
def vn(X:Cx)(E:XD)(st:List p4)(m:cJ):Prop:=rJ X st (Ln X.K E m)
abbrev nD:=D->aQ->M aQ
def Kb(K:dV)(E:XD)(m:nD):TG:=fun v σ H Q=>∃ ι S ρ d,Rep K ι H S/\RelE K ι H ρ σ/\RelD K ι H d v/\cont K E (m d ρ) ι S H (fun ρ' ι' _ H'=>∀ σ',RelE K ι' H' ρ' σ'->Q σ' H')
def SG(X:Cx)(E:XD)(tg:Expr)(m:nD):Prop:=PG X tg (Kb X.K E m)
theorem PE.imp{X:Cx}{e:Expr}{t t':TE}(h:PE X e t)(k:∀ σ H Q,t' σ H Q->t σ H Q):PE X e t':=fun pins s σ H Q I hw=>h pins s σ H Q I (k σ H Q hw)
theorem PT.imp{X:Cx}{e:Expr}{t t':TT}(h:PT X e t)(k:∀ σ H Q,t' σ H Q->t σ H Q):PT X e t':=fun pins s σ H Q I hw=>h pins s σ H Q I (k σ H Q hw)
theorem PW.imp{X:Cx}{e:Expr}{t t':TT}(h:PW X e t)(k:∀ σ H Q,t' σ H Q->t σ H Q):PW X e t':=fun Z pins s σ H Q I hw=>h Z pins s σ H Q I (k σ H Q hw)
theorem PA.imp{X:Cx}{e:List Expr}{t t':TA}(h:PA X e t)(k:∀ σ H Q,t' σ H Q->t σ H Q):PA X e t':=fun pos pins s σ H Q I hw=>h pos pins s σ H Q I (k σ H Q hw)
theorem PS.imp{X:Cx}{e:p4}{t t':TS}(h:PS X e t)(k:∀D σ H,t' D σ H->t D σ H):PS X e t':=fun pins s σ H D I hw=>h pins s σ H D I (k D σ H hw)
theorem rJ.imp{X:Cx}{e:List p4}{t t':TS}(h:rJ X e t)(k:∀D σ H,t' D σ H->t D σ H):rJ X e t':=fun pins s σ H D I hw=>h pins s σ H D I (k D σ H hw)
theorem PG.imp{X:Cx}{e:Expr}{t t':TG}(h:PG X e t)(k:∀v σ H Q,t' v σ H Q->t v σ H Q):PG X e t':=fun pins s σ H v u Q I r hw=>h pins s σ H v u Q I r (k v σ H Q hw)
section
variable {X:Cx}{E:XD}{a b e:Expr}{m n:TM}{pos:Pos}
def Ej(ρ:aQ)(i:Nat):M D:=match ρ[i]? with
 |some (ar d)=>a_ d
 |_=>M.fail
theorem aa(i:Nat)(W:X.N[i]? =ar x:=by rfl)(U:zY X.env.scope x:=by first|exact QZ rfl|exact Qd (QZ rfl)|exact Qd (Qd rfl))(Z:(x==("__debug__":Str))=false:=by decide)
  (Y:(x==("__classdict__":Str))=false:=by decide):SE X E (.Name x pos) (fun ρ=>Ej ρ i):=by
 refine PE.imp (tN W U Z Y) fun σ H Q h=>?_;obtain⟨ι,S,ρ,rep,re,c⟩:=h;unfold Ej at c;dsimp only at c;split at c
 ·next d Z=>
  obtain⟨v,e1,e2⟩:=re.get Z;exact⟨v,e1,aj c .refl rep v e2⟩
 ·exact(ah c).elim
theorem km(h:PE X e (tC v))(Z:∀ ι H,RelD X.K ι H d v):SE X E e (fun _=>a_ d):=by
 refine PE.imp h fun σ H Q h=>?_;obtain⟨ι,S,ρ,rep,re,c⟩:=h;exact aj c .refl rep v (Z _ _)
theorem aB{j}:SE X E (.Constant (.int i) j pos) (fun _=>a_ (.int i)):=km w5 fun _ _=>.int i
theorem dF{j}:SE X E (.Constant (.bool i) j pos) (fun _=>a_ (.bl i)):=km IH fun _ _=>.bl i
theorem gG{j}:SE X E (.Constant .none j pos) (fun _=>a_ .non):=km Gi fun _ _=>.non
theorem nL{j}:SE X E (.Constant (.str x) j pos) (fun _=>a_ (.str x)):=km Gj fun _ _=>.str x
theorem El(Y:Gl X x)(W:X.mg x=ar (.int i t))(Z:(x==("__debug__":Str))=false:=by decide):SE X E (.Name x pos) (fun _=>a_ (.int i)):=
 km (yy Y W (v:=.int i) ⟨t,rfl⟩ Z) fun _ _=>.int i
def vo(K:dV)(E:XD)(f:D->D->M D)(r:R2):Prop:=
 ∀ ι S H d1 d2 v1 v2 Q,Rep K ι H S->RelD K ι H d1 v1->RelD K ι H d2 v2->cont K E (f d1 d2) ι S H (kT K Q)->r v1 v2 H Q
theorem Em(W:vo X.K E f r)(h:tM X.K E (fun ρ=>do let x<-m ρ;let y<-n ρ;f x y) σ H Q):IW r (tM X.K E m) (tM X.K E n) σ H Q:=by
 obtain⟨ι,S,ρ,rep,re,c⟩:=h;refine⟨ι,S,ρ,rep,re,az (aq c) fun x Z S1 N e1 rep1 R v1 P=>?_⟩;refine⟨Z,S1,ρ,rep1,re.later rep e1,az (aq R) fun y Y S2 U e2 rep2 T v2 O=>?_⟩;exact W Y S2 U x y v1 v2 Q rep2 (P.later rep1 e2) O T
theorem sE(h:jF X (t6 op) r)(W:vo X.K E f r)(Y:SE X E a m)(Z:SE X E b n):SE X E (.BinOp a op b pos) (fun ρ=>do let x<-m ρ;let y<-n ρ;f x y):=
 PE.imp (IX h Y Z) fun _ _ _ q=>Em W q
theorem xt(h:jF X (j_ op) r)(U:vo X.K E f r)(W:SE X E a m)(Z:SE X E b n)(Y:n0 op b=false:=by first|exact vt _ (by decide) (by decide)|rfl):
  SE X E (.Compare a [op] [b] pos) (fun ρ=>do let x<-m ρ;let y<-n ρ;f x y):=
 PE.imp (D7 h W Z Y) fun _ _ _ q=>Em U q
theorem Jj(h:DQ X r)(W:vo X.K E f r)(Y:SE X E a m)(Z:SE X E b n)(hs:tR b:=by intro _ _;rfl):SE X E (.Subscript a b pos) (fun ρ=>do let x<-m ρ;let y<-n ρ;f x y):=
 PE.imp (Jf h Y Z hs) fun _ _ _ q=>Em W q
end
def lim:Nat:=10000000
theorem ia:lim<=sizeLine:=by rw[MT];decide
theorem G3:lim<sizeLine:=by rw[MT];decide
section
variable {K:dV}{ι:List dt}{H:Hp}
theorem RelD.bl_inv(h:RelD K ι H (.bl b) v):v= .bl b:=by cases h;rfl
theorem RelD.int_inv(h:RelD K ι H (.int b) v):v= .int b:=by cases h;rfl
theorem RelD.str_inv(h:RelD K ι H (.str b) v):v= .str b:=by cases h;rfl
theorem RelD.non_inv(h:RelD K ι H .non v):v= .non:=by cases h;rfl
theorem RelD.tup_inv(h:RelD K ι H (.tup ds) v):∃a vs,v= .ref a/\H a=ar (.tup vs)/\RelDs K ι H ds vs:=by
 cases h with
 |tup h1 h2=>exact⟨_,_,rfl,h1,h2⟩
theorem RelD.lst_inv(h:RelD K ι H (.lst k) v):∃a,v= .ref a/\ι[k]? =ar a:=by
 cases h with
 |lst h1=>exact⟨_,rfl,h1⟩
theorem RelD.ro_inv(h:RelD K ι H (.ro ds) v):∃a vs,v= .ref a/\DR K H a vs/\RelDs K ι H ds vs:=by
 cases h with
 |ro h1 h2=>exact⟨_,_,rfl,h1,h2⟩
theorem RelD.fz_inv(h:RelD K ι H (.fz ds) v):∃a o vs,v= .ref a/\H a=ar (.frz o (.lst vs))/\RelDs K ι H ds vs:=by
 cases h with
 |fz h1 h2=>exact⟨_,_,_,rfl,h1,h2⟩
theorem RelDs.nil_inv(h:RelDs K ι H [] vs):vs=[]:=by cases h;rfl
theorem RelDs.cons_inv(h:RelDs K ι H (d::ds) vs):∃v ws,vs=v::ws/\RelD K ι H d v/\RelDs K ι H ds ws:=by
 cases h with
 |cons h1 h2=>exact⟨_,_,rfl,h1,h2⟩
end
def lE:D->M Bool
 | .bl b=>a_ b
 |_=>M.fail
def getL(k:Nat):M (List D):=fun S=>(S[k]?).bind fun xs=>ar (.ok xs,S)
def bJ(ds:List D):M D:=fun S=>if ds.length<=lim then ar (.ok (.lst S.length),S++[ds])else none
def lA(k:Nat)(ds:List D):M D:=fun S=>if ds.length<=lim/\k<S.length then ar (.ok .non,S.set k ds)else none
def bU(ds:List D):M D:=if ds.length<=lim then a_ (.tup ds)else M.fail
section
variable {K:dV}{E:XD}{ι:List dt}{S:aF}{H:Hp}{α:Type}
theorem ud{f:Bool->M α}(Z:Rep K ι H S)(r:RelD K ι H x v)(c:cont K E (lE x>>=f) ι S H Q):∃b,v= .bl b/\x= .bl b/\cont K E (f b) ι S H Q:=by
 cases x with
 |bl b=>exact⟨b,r.bl_inv,rfl,aj (aq c) .refl Z⟩
 |_=>exact(ah (aq c)).elim
theorem qf{Q:Bool->List dt->aF->Hp->Prop}(Z:Rep K ι H S)(r:RelD K ι H x v)(c:cont K E (lE x) ι S H Q):∃b,v= .bl b/\x= .bl b/\Q b ι S H:=by
 cases x with
 |bl b=>exact⟨b,r.bl_inv,rfl,aj c .refl Z⟩
 |_=>exact(ah c).elim
theorem Aj{Q:D->List dt->aF->Hp->Prop}(c:cont K E (bJ ds) ι S H Q)(Z:Rep K ι H S)(r:RelDs K ι H ds vs):
  vs.length<=lim/\∀p,H p=none->Q (.lst S.length) (ι++[p]) (S++[ds]) (upd H p (.lst vs)):=by
 obtain⟨U,X,e,q⟩:=c;unfold bJ at e;split at e
 ·next hl=>
  cases e;exact⟨by rw[<-r.length];exact hl,fun p Y=>q _ _ (vC Y) (BJ Z Y r)⟩
 ·cases e
theorem BK(Z:Rep K ι H S):RelD K (ι++[p]) H' (.lst S.length) (.ref p):=.lst (by rw[<-Z.len];simp)
theorem bD{Q:VK}(c:cont K E (bJ ds) ι S H (kT K Q))(Z:Rep K ι H S)(r:RelDs K ι H ds vs):vs.length<=lim/\∀p,H p=none->Q (.ref p) (upd H p (.lst vs)):=
 let ⟨h1,h2⟩:=Aj c Z r
 ⟨h1,fun p Y=>h2 p Y _ (BK Z)⟩
theorem gH{Q:VK}(c:cont K E (bU ds) ι S H (kT K Q))(Z:Rep K ι H S)(r:RelDs K ι H ds vs):vs.length<=lim/\∀p,H p=none->Q (.ref p) (upd H p (.tup vs)):=by
 unfold bU at c;split at c
 ·next hl=>
  refine⟨by rw[<-r.length];exact hl,fun p Y=>?_⟩
  exact aj c (fi Y) (gf Z Y) _ (.tup aV (r.later Z (fi Y)))
 ·exact(ah c).elim
theorem jJ{Q:VK}(c:cont K E (bU ds) ι S H (kT K Q))(Z:Rep K ι H S)(h:H a=ar (.tup vs))(r:RelDs K ι H ds vs):Q (.ref a) H:=by
 unfold bU at c;split at c
 ·exact aj c .refl Z _ (.tup h r)
 ·exact(ah c).elim
theorem bC{f:List D->M α}(c:cont K E (getL k>>=f) ι S H Q)(Z:Rep K ι H S)(X:ι[k]? =ar a):
  ∃ds vs,S[k]? =ar ds/\H a=ar (.lst vs)/\RelDs K ι H ds vs/\cont K E (f ds) ι S H Q:=by
 obtain⟨R,T,e,q⟩:=aq c;unfold getL at e;cases z:S[k]? with
 |none=>rw[z]at e;cases e
 |some ds=>
  rw[z]at e;cases e;obtain⟨vs,U,Y⟩:=Z.get k a ds X z;exact⟨ds,vs,rfl,U,Y,q ι H .refl Z⟩
theorem jw{Q:D->List dt->aF->Hp->Prop}(c:cont K E (lA k ds) ι S H Q)(Z:Rep K ι H S)(Y:ι[k]? =ar a)(r:RelDs K ι H ds vs):
  vs.length<=lim/\Q .non ι (S.set k ds) (upd H a (.lst vs)):=by
 obtain⟨U,X,e,q⟩:=c;unfold lA at e;split at e
 ·next hl=>
  cases e;exact⟨by rw[<-r.length];exact hl.1,q _ _ (ub (Mx Y)) (uc Z Y r)⟩
 ·cases e
end
section
variable {X:Cx}{E:XD}{a b e:Expr}{m n:TM}{pos:Pos}{rest es:List Expr}{ms:aQ->M (List D)}{t u:aQ->M Bool}
theorem lV{op}(h:SE X E a m):SE X E (.BoolOp op [a] pos) m:=Gq h
theorem ko(W:SE X E a m)(U:SE X E (.BoolOp .And (b::rest) pos) n):SE X E (.BoolOp .And (a::b::rest) pos) (fun ρ=>do let x<-m ρ;let c<-lE x;if c=bc then n ρ else a_ (.bl c_)):=by
 refine PE.imp (Gr W U) fun σ H Q h=>?_;obtain⟨ι,S,ρ,rep,re,c⟩:=h;refine⟨ι,S,ρ,rep,re,az (aq c) fun x Z S1 P e1 rep1 T v1 R=>?_⟩;obtain⟨k,rfl,rfl,Y⟩:=ud rep1 R T;refine⟨k,rfl,?_⟩;cases k with
 |true=>exact⟨Z,S1,ρ,rep1,re.later rep e1,Y⟩
 |false=>exact aj Y .refl rep1 _ (.bl c_)
theorem BM(Z:SE X E a m):SE X E (.UnaryOp .Not a pos) (fun ρ=>do let x<-m ρ;let c<-lE x;a_ (.bl (!c))):=by
 refine PE.imp (Gs Z) fun σ H Q h=>?_;obtain⟨ι,S,ρ,rep,re,c⟩:=h;refine⟨ι,S,ρ,rep,re,az (aq c) fun x U S1 R e1 rep1 W v1 T=>?_⟩;obtain⟨k,rfl,rfl,Y⟩:=ud rep1 T W;exact⟨k,rfl,aj Y .refl rep1 _ (.bl _)⟩
theorem Jk(h:GZ X.K E (fun ρ=>do let x<-m ρ;lE x) σ H Q):tB (tM X.K E m) σ H Q:=by
 obtain⟨ι,S,ρ,rep,re,c⟩:=h;refine⟨ι,S,ρ,rep,re,az (aq c) fun x W S1 T e1 rep1 Y v1 U=>?_⟩;obtain⟨k,rfl,rfl,Z⟩:=qf rep1 U Y;exact⟨k,rfl,Z⟩
theorem eF(h:SE X E e m)(Z:∀whole,isTrue e X.env whole=(do let v<-whole;RG e.pos;A' [v] (truthy v)):=by intro _;rfl):SB X E e (fun ρ=>do let x<-m ρ;lE x):=
 PT.imp (Gk h Z) fun _ _ _ q=>Jk q
theorem lW(h:jF X (j_ op) r)(Y:vo X.K E f r)(Z:SE X E a m)(U:SE X E b n)(N:n0 op b=false:=by first|exact vt _ (by decide) (by decide)|rfl):
  SB X E (.Compare a [op] [b] pos) (fun ρ=>do let z<-(do let x<-m ρ;let y<-n ρ;f x y);lE z):=
 PT.imp (D8 h Z U N) fun σ H Q q=>by
  obtain⟨ι,S,ρ,rep,re,c⟩:=q;refine Em Y (Q:=fun x W=>∃k,x= .bl k/\Q k W) ⟨ι,S,ρ,rep,re,az (aq c) fun x P S1 L e1 rep1 R v1 O=>?_⟩;obtain⟨k,rfl,rfl,T⟩:=qf rep1 O R;exact⟨k,rfl,T⟩
theorem fD(h:SB X E a t):SB X E (.UnaryOp .Not a pos) (fun ρ=>do let c<-t ρ;a_ (!c)):=by
 refine PT.imp (Gp h) fun σ H Q q=>?_;obtain⟨ι,S,ρ,rep,re,c⟩:=q;exact⟨ι,S,ρ,rep,re,az (aq c) fun k Z S1 W e1 rep1 Y=>aj Y .refl rep1⟩
theorem yG(h:SB X E a t):G0 X E (.BoolOp .And [a] pos) t:=DY h
theorem lX(h:SB X E a t):G0 X E (.BoolOp .Or [a] pos) t:=Gm h
theorem BN(W:SB X E a t)(U:G0 X E (.BoolOp .And (b::rest) pos) u):G0 X E (.BoolOp .And (a::b::rest) pos) (fun ρ=>do let c<-t ρ;if c=bc then u ρ else a_ c_):=by
 refine PW.imp (Gn W U) fun σ H Q q=>?_;obtain⟨ι,S,ρ,rep,re,c⟩:=q;refine⟨ι,S,ρ,rep,re,az (aq c) fun k Z S1 T e1 rep1 Y=>?_⟩;cases k with
 |true=>exact⟨Z,S1,ρ,rep1,re.later rep e1,Y⟩
 |false=>exact aj Y .refl rep1
theorem mJ(W:SB X E a t)(U:G0 X E (.BoolOp .Or (b::rest) pos) u):G0 X E (.BoolOp .Or (a::b::rest) pos) (fun ρ=>do let c<-t ρ;if c=bc then a_ bc else u ρ):=by
 refine PW.imp (II W U) fun σ H Q q=>?_;obtain⟨ι,S,ρ,rep,re,c⟩:=q;refine⟨ι,S,ρ,rep,re,az (aq c) fun k Z S1 T e1 rep1 Y=>?_⟩;cases k with
 |false=>exact⟨Z,S1,ρ,rep1,re.later rep e1,Y⟩
 |true=>exact aj Y .refl rep1
theorem ue(h:G0 X E e t):SB X E e t:=PW.pt h
theorem ai:SA X E [] (fun _=>a_ []):=by
 refine PA.imp kh fun σ H Q q=>?_;obtain⟨ι,S,ρ,rep,re,c⟩:=q;exact aj c .refl rep _ .nil
theorem af(Y:SE X E e m)(P:SA X E es ms)(hs:d_ (e::es) X.env=(c_,gg e X.env)::d_ es X.env:=by rfl):SA X E (e::es) (fun ρ=>do let x<-m ρ;let xs<-ms ρ;a_ (x::xs)):=by
 refine PA.imp (fM Y P hs) fun σ H Q q=>?_;obtain⟨ι,S,ρ,rep,re,c⟩:=q;refine⟨ι,S,ρ,rep,re,az (aq c) fun x Z S1 N e1 rep1 U v1 T=>?_⟩;refine⟨Z,S1,ρ,rep1,re.later rep e1,az (aq U) fun xs R S2 L e2 rep2 W vs O=>?_⟩;exact aj W .refl rep2 _ (.cons (T.later rep1 e2) O)
theorem cF{x1}(h:SA X E es ms):SE X E (.Tuple es x1 pos) (fun ρ=>do let ds<-ms ρ;bU ds):=by
 refine PE.imp (Bv h) fun σ H Q q=>?_;obtain⟨ι,S,ρ,rep,re,c⟩:=q;refine⟨ι,S,ρ,rep,re,az (aq c) fun x U S1 R e1 rep1 W vs T=>?_⟩;obtain⟨Y,Z⟩:=gH W rep1 T;exact⟨Ma Y ia,Z⟩
theorem bE(h:SA X E es ms):SE X E (.List es pos) (fun ρ=>do let ds<-ms ρ;bJ ds):=by
 refine PE.imp (GO h) fun σ H Q q=>?_;obtain⟨ι,S,ρ,rep,re,c⟩:=q;refine⟨ι,S,ρ,rep,re,az (aq c) fun x U S1 R e1 rep1 W vs T=>?_⟩;obtain⟨Y,Z⟩:=bD W rep1 T;exact⟨Ma Y ia,Z⟩
def lF(K:dV)(E:XD)(f:List D->M D)(r:List V->Hp->VK->Prop):Prop:=
 ∀ ι S H ds vs Q,Rep K ι H S->RelDs K ι H ds vs->cont K E (f ds) ι S H (kT K Q)->r vs H Q
theorem Jl(U:lF X.K E f r)(h:tM X.K E (fun ρ=>do let ds<-ms ρ;f ds) σ H Q):KQ r (KY X.K E ms) σ H Q:=by
 obtain⟨ι,S,ρ,rep,re,c⟩:=h;exact⟨ι,S,ρ,rep,re,az (aq c) fun ds Z S1 W e1 rep1 Y vs T=>U Z S1 W ds vs Q rep1 T Y⟩
theorem jx{x:Str}{W:String}{f:List D->M D}{r:List V->Hp->VK->Prop}{p:Pos}(U:dX X (.builtin W) r)(S:lF X.K E f r)(O:Gl X x)(N:X.mg x=none)(Q:lx x=ar (.builtin W))(T:SA X E (e::es) ms)
  (R:x≠"__name__":=by decide) (Y:(x==("__debug__":Str))=false:=by decide) (P:d_ (e::es) X.env=(c_,gg e X.env)::d_ es X.env:=by rfl) (Z:(pa pos (d_ es X.env)).any (·.1)=false:=by rfl):
  SE X E (.Call (.Name x p) (e::es) [] pos) (fun ρ=>do let ds<-ms ρ;f ds):=
 PE.imp (ki U O N Q T R Y P Z) fun _ _ _ q=>Jl S q
theorem sF(W:dX X (.type T) r)(R:lF X.K E f r)(O:Gl X x)(N:X.mg x=none)(Q:lx x=ar (.type T))(S:SA X E (e::es) ms)
  (U:x≠"__name__":=by decide) (Y:(x==("__debug__":Str))=false:=by decide) (P:d_ (e::es) X.env=(c_,gg e X.env)::d_ es X.env:=by rfl) (Z:(pa pos (d_ es X.env)).any (·.1)=false:=by rfl):
  SE X E (.Call (.Name x p) (e::es) [] pos) (fun ρ=>do let ds<-ms ρ;f ds):=
 PE.imp (kS W O N Q S U Y P Z) fun _ _ _ q=>Jl R q
abbrev gh:XD:=fun _ _ _ _=>False
def LF(K:dV)(F:List D->M D):Sp:=fun vs H Q _=>∃ ι S ds,Rep K ι H S/\RelDs K ι H ds vs/\cont K gh (F ds) ι S H (kT K Q)
def Jm(K:dV)(E:XD)(f:D->List D->M D)(r:V->List V->Hp->VK->Prop):Prop:=
 ∀ ι S H d ds v vs Q,Rep K ι H S->RelD K ι H d v->RelDs K ι H ds vs->cont K E (f d ds) ι S H (kT K Q)->r v vs H Q
end
theorem iG{K:dV}{E:XD}{α:Type}{c:M α}{ι Z:List dt}{S:aF}{H X:Hp}{Q:α->List dt->aF->Hp->Prop}(h:cont K E c ι S H Q)(e:Ext ι H Z X):cont K E c Z S X Q:=by
 obtain⟨r,R,q,k⟩:=h;exact⟨r,R,q,fun Y T U rep2=>k Y T (e.trans U) rep2⟩
section
variable {X:Cx}{E:XD}{st:p4}{sts:List p4}{m n:cJ}{e:Expr}{me:TM}{t:aQ->M Bool}{pos:Pos}{g:nD}
def Ak(o:Out)(n:cJ):M Out:=match o with
 | .nx ρ=>n ρ
 | .ret d=>a_ (.ret d)
 | .bk ρ=>a_ (.bk ρ)
 | .ct ρ=>a_ (.ct ρ)
theorem bF:vn X E [] (fun ρ=>a_ (.nx ρ)):=by
 refine rJ.imp DZ fun T σ H h=>?_;obtain⟨ι,S,ρ,rep,re,c⟩:=h;exact aj c .refl rep σ re
theorem aA(R:SS X E st m)(U:vn X E sts n):vn X E (st::sts) (fun ρ=>do let o<-m ρ;Ak o n):=by
 refine rJ.imp (vv R U) fun T σ H h=>?_;obtain⟨ι,S,ρ,rep,re,c⟩:=h;refine⟨ι,S,ρ,rep,re,az (aq c) fun o Y S1 P e1 rep1 Z=>?_⟩;cases o with
 |nx ρ'=>exact fun Q W=>⟨Y,S1,ρ',rep1,W,Z⟩
 |ret d=>exact aj Z .refl rep1
 |bk ρ'=>exact aj Z .refl rep1
 |ct ρ'=>exact aj Z .refl rep1
theorem aJ(Z:SS X E st m):vn X E [st] m:=by
 refine rJ.imp (tO Z) fun T σ H h=>h
theorem dD(Z:SE X E e me)(hs:ly e none pos.line X.env=a_ false:=by rfl):SS X E (.Expr e pos) (fun ρ=>do let _<-me ρ;a_ (.nx ρ)):=by
 refine PS.imp (D0 Z hs) fun T σ H h=>?_;obtain⟨ι,S,ρ,rep,re,c⟩:=h;refine⟨ι,S,ρ,rep,re,az (aq c) fun d W S1 U e1 rep1 Y v r=>?_⟩;exact aj Y .refl rep1 σ (re.later rep e1)
theorem a8(W:SE X E e me):SS X E (.Return (ar e) pos) (fun ρ=>do let d<-me ρ;a_ (.ret d)):=by
 refine PS.imp (Gu W) fun T σ H h=>?_;obtain⟨ι,S,ρ,rep,re,c⟩:=h;exact⟨ι,S,ρ,rep,re,az (aq c) fun d Y S1 U e1 rep1 Z=>aj Z .refl rep1⟩
theorem cy(W:SB X E e t)(U:vn X E a m)(R:vn X E b n):SS X E (.If e a b pos) (fun ρ=>do let c<-t ρ;if c=bc then m ρ else n ρ):=by
 refine PS.imp (IP W U R) fun T σ H h=>?_;obtain⟨ι,S,ρ,rep,re,c⟩:=h;refine⟨ι,S,ρ,rep,re,az (aq c) fun k Z S1 Q e1 rep1 Y=>?_⟩;cases k with
 |true=>exact⟨Z,S1,ρ,rep1,re.later rep e1,Y⟩
 |false=>exact⟨Z,S1,ρ,rep1,re.later rep e1,Y⟩
theorem ba(i:Nat)(Z:X.N.Nodup)(hi:X.N[i]? =ar x:=by rfl)(Y:Loc X.env.scope x:=by first|exact QZ rfl|exact Qd rfl)(W:X.fn x=bc\/X.env.scope.names.lookup x=ar .local:=by first|exact .inl rfl|exact .inr rfl|assumption):
  SG X E (.Name x pos) (fun d ρ=>a_ (ρ.set i (ar d))):=by
 refine PG.imp (D1 Z hi Y W) fun v σ H Q h=>?_;obtain⟨ι,S,ρ,d,rep,re,r,c⟩:=h;exact aj c .refl rep _ (re.set r i)
def KZ(K:dV)(E:XD)(m:List D->aQ->M aQ):FJ:=fun vs σ H Q=>∃ ι S ρ ds,Rep K ι H S/\RelE K ι H ρ σ/\RelDs K ι H ds vs/\cont K E (m ds ρ) ι S H (fun ρ' ι' _ H'=>∀ σ',RelE K ι' H' ρ' σ'->Q σ' H')
def Jn(X:Cx)(E:XD)(ts:List Expr)(m:List D->aQ->M aQ):Prop:=Bi X ts (KZ X.K E m)
theorem Bi.imp{X:Cx}{e:List Expr}{t t':FJ}(h:Bi X e t)(k:∀v σ H Q,t' v σ H Q->t v σ H Q):Bi X e t':=fun pins s σ H v u Q I r hw=>h pins s σ H v u Q I r (k v σ H Q hw)
def dY:List D->aQ->M aQ:=fun ds ρ=>match ds with
 |[]=>a_ ρ
 |_=>M.fail
def bb(g:nD)(gs:List D->aQ->M aQ):List D->aQ->M aQ:=fun ds ρ=>match ds with
 |d::r=>do let ρ1<-g d ρ;gs r ρ1
 |_=>M.fail
theorem fN:Jn X E [] dY:=by
 refine Bi.imp D3 fun vs σ H Q h=>?_;obtain⟨ι,S,ρ,ds,rep,re,r,c⟩:=h;cases ds with
 |nil=>exact⟨r.nil_inv,aj c .refl rep σ re⟩
 |cons d ds=>exact(ah c).elim
theorem bw(T:SG X E e g)(U:Jn X E es gs)(hs:(l_ (e::es) X.env).map (·.2)=Qb e X.env::(l_ es X.env).map (·.2):=by rfl):Jn X E (e::es) (bb g gs):=by
 refine Bi.imp (Bk T U hs) fun vs σ H Q h=>?_;obtain⟨ι,S,ρ,ds,rep,re,r,c⟩:=h;cases ds with
 |nil=>exact(ah c).elim
 |cons d ds=>
  obtain⟨v,ws,rfl,O,N⟩:=r.cons_inv;refine⟨v,ws,rfl,ι,S,ρ,d,rep,re,O,az (aq c) fun Z Y S1 L e1 rep1 P R W=>?_⟩;exact⟨Y,S1,Z,ds,rep1,W,N.later rep e1,P⟩
def fE(n:Nat)(gs:List D->aQ->M aQ):nD:=fun d ρ=>match d with
 | .tup ds=>if ds.length=n then gs ds ρ else M.fail
 |_=>M.fail
theorem jh{es:List Expr}{k:Nat}{n:Nat}{W:List D->aQ->M aQ}(U:X.calm=bc)(h:Jn X E es W)(R:(l_ es X.env).length=n:=by rfl)(Z:(l_ es X.env).findIdx? (·.1)=none:=by rfl):
  SG X E (.Tuple es k pos) (fE n W):=by
 refine PG.imp (Gw U h R Z) fun v σ H Q q=>?_;obtain⟨ι,S,ρ,d,rep,re,r,c⟩:=q;cases d with
 |tup ds=>
  obtain⟨a,vs,rfl,T,Y⟩:=r.tup_inv;dsimp only[fE]at c;split at c
  ·next hl=>exact⟨a,vs,rfl,lD.of T,by rw[<-Y.length];exact hl,ι,S,ρ,ds,rep,re,Y,c⟩
  ·exact(ah c).elim
 |_=>exact(ah c).elim
theorem kq(U:SE X E e me)(R:SG X E tg g)(hs:Ic [tg] e pos.line X.env=a_ false:=by rfl)(W:I_ [tg] e X.env=a_ none:=by rfl)
  (Y:(l_ [tg] X.env).map (·.2)=[Qb tg X.env]:=by rfl):SS X E (.Assign [tg] e pos) (fun ρ=>do let d<-me ρ;let ρ'<-g d ρ;a_ (.nx ρ')):=by
 refine PS.imp (Gz U R hs W Y) fun T σ H h=>?_;obtain⟨ι,S,ρ,rep,re,c⟩:=h;refine⟨ι,S,ρ,rep,re,az (aq c) fun d Z S1 N e1 rep1 P v r=>?_⟩;exact⟨Z,S1,ρ,d,rep1,re.later rep e1,r,az (aq P) fun ρ' O S2 L e2 rep2 Q=>aj Q .refl rep2⟩
theorem bj(i:Nat)(Z:X.N.Nodup)(W:SE X E e me)(hi:X.N[i]? =ar x:=by rfl)(Y:Loc X.env.scope x:=by first|exact QZ rfl|exact Qd rfl)(hs:ly e (ar (.Name x pos')) pos.line X.env=a_ false:=by rfl)
  (U:X.fn x=bc\/X.env.scope.names.lookup x=ar .local:=by first|exact .inl rfl|exact .inr rfl|assumption):SS X E (.Assign [.Name x pos'] e pos) (fun ρ=>do let d<-me ρ;a_ (.nx (ρ.set i (ar d)))):=by
 refine PS.imp (Bl Z hi Y W hs U) fun T σ H h=>?_;obtain⟨ι,S,ρ,rep,re,c⟩:=h;refine⟨ι,S,ρ,rep,re,az (aq c) fun d Q S1 P e1 rep1 R v r=>?_⟩;exact aj R .refl rep1 _ ((re.later rep e1).set r i)
theorem BO(i j:Nat){kt k2 pt2}(J:X.calm=bc)(I:X.N.Nodup)(R:SA X E [a,b] ms)(hi:X.N[i]? =ar x:=by rfl)(P:X.N[j]? =ar y:=by rfl)(Y:i≠j:=by decide)
  (G:X.env.scope.names.lookup x=ar .local:=by rfl) (W:X.env.scope.names.lookup y=ar .local:=by rfl)
  (Q:I_ [.Tuple [.Name x px,.Name y py] kt pt] (.Tuple [a,b] k2 pt2) X.env=a_ (ar [x,y]):=by rfl)
  (hs:Ic [.Tuple [.Name x px,.Name y py] kt pt] (.Tuple [a,b] k2 pt2) pos.line X.env=a_ false:=by rfl):
  SS X E (.Assign [.Tuple [.Name x px,.Name y py] kt pt] (.Tuple [a,b] k2 pt2) pos) (fun ρ=>do let ds<-ms ρ;match ds with|[d1,d2]=>a_ (.nx ((ρ.set i (ar d1)).set j (ar d2)))|_=>M.fail):=by
 refine PS.imp (GA J I hi P Y G W R Q hs) fun T σ H h=>?_;obtain⟨ι,S,ρ,rep,re,c⟩:=h;refine⟨ι,S,ρ,rep,re,az (aq c) fun ds F S1 B e1 rep1 Z vs r=>?_⟩
 match ds,r,Z with
 |[d1,d2],r,Z=>
  obtain⟨v1,ws,rfl,C,L⟩:=r.cons_inv;obtain⟨v2,K,rfl,O,U⟩:=L.cons_inv;cases U.nil_inv;exact⟨v1,v2,rfl,aj Z .refl rep1 _ (((re.later rep e1).set C i).set O j)⟩
 |[],r,Z=>exact(ah Z).elim
 |[d],r,Z=>exact(ah Z).elim
 |d1::d2::d3::r',r,Z=>exact(ah Z).elim
def K1(K:dV)(E:XD)(f:D->D->D->M Unit)(r:Gv):Prop:=
 ∀ ι S H d1 d2 d3 v1 v2 v3 Q,Rep K ι H S->RelD K ι H d1 v1->RelD K ι H d2 v2->RelD K ι H d3 v3->cont K E (f d1 d2 d3) ι S H (fun _ _ _ H'=>Q H')->r v1 v2 v3 H Q
def gY:D->D->D->M Unit:=fun o i v=>match o,i with
 | .lst k,.int j=>do
  let xs<-getL k
  match wZ xs.length j with
  |some at'=>do let _<-lA k (xs.set at' v);a_ ()
  |none=>M.fail
 |_,_=>M.fail
inductive Chk where
 |none|some (k:Nat)|two (k j:Nat) (xs ys:List D)
structure Iter where
 items:List D
 chk:Chk
def Iter.okS(it:Iter)(S:aF):Prop:=match it.chk with
 | .none=>True
 | .some k=>S[k]? = .some it.items
 | .two k j xs ys=>S[k]? = .some xs/\S[j]? = .some ys
open Classical in
def jz(it:Iter):M Unit:=fun S=>if it.okS S then ar (.ok (),S)else none
def ku(K:dV)(it:Iter)(J:It)(ι:List dt)(H:Hp):Prop:=
 ∀ ι2 H2 S2,ExtN ι H ι2 H2->Rep K ι2 H2 S2->it.okS S2->∀i,(∀d,it.items[i]? =ar d->J.go i H2/\∀x H3,J.yld i H2 x H3->Ext ι2 H2 ι2 H3/\Rep K ι2 H3 S2/\RelD K ι2 H3 d x)/\(it.items.length<=i->J.stop i H2)
def Lo(K:dV)(E:XD)(mi:aQ->M Iter):TI:=fun σ H R=>∃ ι S ρ,Rep K ι H S/\RelE K ι H ρ σ/\cont K E (mi ρ) ι S H (fun it ι' _ H'=>∀J,ku K it J ι' H'->R J H')
def SI(X:Cx)(E:XD)(tg iter:Expr)(mi:aQ->M Iter):Prop:=PI X tg iter (Lo X.K E mi)
def eG(it:Iter)(g:nD)(b:cJ):List D->aQ->M Out
 |[],ρ=>do jz it;a_ (.nx ρ)
 |d::ds,ρ=>do
  jz it
  let ρ1<-g d ρ;let o<-b ρ1
  match o with
  | .nx ρ'=>eG it g b ds ρ'
  | .ct ρ'=>eG it g b ds ρ'
  | .bk ρ'=>a_ (.nx ρ')
  | .ret r=>a_ (.ret r)
theorem mL{K:dV}{ι:List dt}{S:aF}{H:Hp}{α:Type}{it:Iter}{f:Unit->M α}{Q:α->List dt->aF->Hp->Prop}(h:cont K E (jz it>>=f) ι S H Q)(Z:Rep K ι H S):it.okS S/\cont K E (f ()) ι S H Q:=by
 obtain⟨r,Y,e,k⟩:=aq h;unfold jz at e;split at e
 ·next ho=>cases e;exact⟨ho,k ι H .refl Z⟩
 ·cases e
theorem iH(hp:Qs (e_ X.prog X.w) X.A X.env X.xe)(hc:X.calm=bc)(hi:SI X E tg iter mi)(j:SG X E tg g)(f:vn X E body b)
  (hs:∀x,oo iter X.env x=a_ x:=by intro _;rfl):SS X E (.For tg iter body [] pos) (fun ρ=>do let it<-mi ρ;eG it g b it.items ρ):=by
 refine PS.imp (GE hp hc hi j f hs) fun T σ H h=>?_;obtain⟨ι,S,ρ,rep,re,c⟩:=h;refine⟨ι,S,ρ,rep,re,az (aq c) fun it U S1 F e1 rep1 c1 J q=>?_⟩;refine⟨fun i n Q W=>∃ ι2 S2 ρ2,n=it.items.length - i/\i<=it.items.length/\Ext U F ι2 W/\Rep X.K ι2 W S2/\RelE X.K ι2 W ρ2 Q/\cont X.K E (eG it g b (it.items.drop i) ρ2) ι2 S2 W (G1 X.K T),⟨_,U,S1,ρ,rfl,Mg _,.refl,rep1,re.later rep e1,c1⟩,?_⟩;rintro i n Q W ⟨ι2,S2,ρ2,hn,hi',e2,rep2,re2,c2⟩;by_cases hlt:i<it.items.length
 ·have hd:it.items.drop i=it.items[i]::it.items.drop (i+1):=Ph hlt;rw[hd]at c2;have N:cont X.K E (do jz it;let ρ1<-g it.items[i] ρ2;let o<-b ρ1;match o with| .nx ρ'=>eG it g b (it.items.drop (i+1)) ρ'| .ct ρ'=>eG it g b (it.items.drop (i+1)) ρ'| .bk ρ'=>a_ (.nx ρ')| .ret r=>a_ (.ret r)) ι2 S2 W (G1 X.K T):=c2
  obtain⟨ok,B⟩:=mL N rep2;obtain⟨u,b0⟩:=q ι2 W S2 e2.n rep2 ok i;obtain⟨go,yl⟩:=u it.items[i] (LV hlt);refine .inr ⟨go,fun R Y=>∃ ι3 S3 ρ3,Ext U F ι3 Y/\Rep X.K ι3 Y S3/\RelE X.K ι3 Y ρ3 R/\cont X.K E (eG it g b (it.items.drop (i+1)) ρ3) ι3 S3 Y (G1 X.K T),?_,fun x a l=>?_⟩
  ·rintro R Y ⟨ι3,S3,ρ3,e3,rep3,re3,v⟩;exact⟨_,by omega,ι3,S3,ρ3,rfl,hlt,e3,rep3,re3,v⟩
  ·obtain⟨e3,rep3,rd⟩:=yl x a l;refine⟨ι2,S2,ρ2,it.items[i],rep3,re2.later rep2 e3,rd,az (aq (iG B e3)) fun C y S4 H4 e4 I v k s=>?_⟩;refine⟨y,S4,C,I,s,az (aq v) fun o O p H5 e5 Z G=>?_⟩;have L:Ext U F O H5:=e2.trans (e3.trans (e4.trans e5));cases o with
   |nx ρ'=>exact fun z P=>⟨O,p,ρ',L,Z,P,G⟩
   |ct ρ'=>exact fun z P=>⟨O,p,ρ',L,Z,P,G⟩
   |bk ρ'=>exact aj G .refl Z
   |ret d=>exact aj G .refl Z
 ·have hd:it.items.drop i=[]:=List.drop_eq_nil_of_le (by omega)
  rw[hd]at c2;have N:cont X.K E (do jz it;a_ (.nx ρ2)) ι2 S2 W (G1 X.K T):=c2
  obtain⟨ok,B⟩:=mL N rep2;exact .inl ⟨(q ι2 W S2 e2.n rep2 ok i).2 (by omega),aj B .refl rep2 Q re2⟩
def ky(t:aQ->M Bool)(b:cJ):Nat->aQ->M Out
 |0,_=>M.fail
 | k+1,ρ=>do
  let c<-t ρ
  if c=bc then do
   let o<-b ρ
   match o with
   | .nx ρ'=>ky t b k ρ'
   | .ct ρ'=>ky t b k ρ'
   | .bk ρ'=>a_ (.nx ρ')
   | .ret r=>a_ (.ret r)
  else a_ (.nx ρ)
theorem BP(k:Nat)(B:Qs (e_ X.prog X.w) X.A X.env X.xe)(G:SB X E e t)(C:vn X E body b):SS X E (.While e body [] pos) (fun ρ=>ky t b k ρ):=by
 refine PS.imp (Bm B G C) fun T σ H h=>?_;obtain⟨ι,S,ρ,rep,re,c⟩:=h;refine⟨fun n U P=>∃ ι2 S2 ρ2,Rep X.K ι2 P S2/\RelE X.K ι2 P ρ2 U/\cont X.K E (ky t b n ρ2) ι2 S2 P (G1 X.K T),⟨k,ι,S,ρ,rep,re,c⟩,?_⟩;rintro n U P ⟨ι2,S2,ρ2,rep2,re2,c2⟩;cases n with
 |zero=>exact(ah c2).elim
 | succ n=>
  refine⟨ι2,S2,ρ2,rep2,re2,az (aq c2) fun k L F x e3 rep3 J=>?_⟩;cases k with
  |false=>exact aj J .refl rep3 U (re2.later rep2 e3)
  |true=>
   refine⟨fun W Y=>∃ ι2 S2 ρ2,Rep X.K ι2 Y S2/\RelE X.K ι2 Y ρ2 W/\cont X.K E (ky t b n ρ2) ι2 S2 Y (G1 X.K T),fun W Y h=>⟨n,NM _,h⟩,?_⟩;refine⟨L,F,ρ2,rep3,re2.later rep2 e3,az (aq J) fun o Q I y z Z O=>?_⟩;cases o with
   |nx ρ'=>exact fun N R=>⟨Q,I,ρ',Z,R,O⟩
   |ct ρ'=>exact fun N R=>⟨Q,I,ρ',Z,R,O⟩
   |bk ρ'=>exact aj O .refl Z
   |ret d=>exact aj O .refl Z
end
def hZ(H:Hp)(p:dt):Hp:=fun a=>if a=p then none else H a
theorem hide_ne{H:Hp}(h:a≠p):hZ H p a=H a:=if_neg h
theorem mM:hZ H p p=none:=if_pos rfl
theorem cZ{H:Hp}(h:hZ H p a=ar o):a≠p/\H a=ar o:=by
 by_cases e:a=p
 ·rw[e,mM]at h;cases h
 ·rw[hide_ne e]at h;exact⟨e,h⟩
theorem BQ{H:Hp}(h:H p=ar o):upd (hZ H p) p o=H:=by
 funext a;by_cases e:a=p
 ·rw[e,aV,h]
 ·rw[aI e,hide_ne e]
theorem kz:hZ (upd H p o) p=hZ H p:=by
 funext a;by_cases e:a=p
 ·rw[e,mM,mM]
 ·rw[hide_ne e,hide_ne e,aI e]
theorem jK{H:Hp}(h:H p=none):hZ H p=H:=by
 funext a;by_cases e:a=p
 ·rw[e,mM,h]
 ·rw[hide_ne e]
section
variable {K:dV}{ι ι':List dt}{H H':Hp}{S:aF}{p:dt}
mutual
theorem RelD.hide(Z:H p=ar (.lst ws)):∀{d:D} {v:V},RelD K ι H d v->RelD K ι (hZ H p) d v
 |_,_,.non=>.non
 |_,_,.bl b=>.bl b
 |_,_,.int i=>.int i
 |_,_,.str x=>.str x
 |_,_,.tup h hs=>.tup (by rw[hide_ne (fun z=>by rw[z,Z]at h;cases h)];exact h) (RelDs.hide Z hs)
 |_,_,.lst h=>.lst h
 |_,_,.ro h hs=>.ro (h.imp (fun⟨o,h⟩=>⟨o,by rw[hide_ne (fun z=>by rw[z,Z]at h;cases h)];exact h⟩) fun z=>z) (RelDs.hide Z hs)
 |_,_,.emp h=>.emp (by rw[hide_ne (fun z=>by rw[z,Z]at h;cases h)];exact h)
 |_,_,.fn h hs=>.fn (by rw[hide_ne (fun z=>by rw[z,Z]at h;cases h)];exact h) (RelDs.hide Z hs)
 |_,_,.exc n h=>.exc n (by rw[hide_ne (fun z=>by rw[z,Z]at h;cases h)];exact h)
 |_,_,.excF n h h2 hn hs=>.excF n (by rw[hide_ne (fun z=>by rw[z,Z]at h;cases h)];exact h) (by rw[hide_ne (fun z=>by rw[z,Z]at h2;cases h2)];exact h2) hn (RelDs.hide Z hs)
 |_,_,.fz h hs=>.fz (by rw[hide_ne (fun z=>by rw[z,Z]at h;cases h)];exact h) (RelDs.hide Z hs)
theorem RelDs.hide(Z:H p=ar (.lst ws)):∀{ds:List D} {vs:List V},RelDs K ι H ds vs->RelDs K ι (hZ H p) ds vs
 |_,_,.nil=>.nil
 |_,_,.cons h hs=>.cons (RelD.hide Z h) (RelDs.hide Z hs)
end
mutual
theorem RelD.unhide:∀{d:D} {v:V},RelD K ι (hZ H p) d v->RelD K ι H d v
 |_,_,.non=>.non
 |_,_,.bl b=>.bl b
 |_,_,.int i=>.int i
 |_,_,.str x=>.str x
 |_,_,.tup h hs=>.tup (cZ h).2 (RelDs.unhide hs)
 |_,_,.lst h=>.lst h
 |_,_,.ro h hs=>.ro (h.imp (fun⟨o,h⟩=>⟨o,(cZ h).2⟩) fun z=>z) (RelDs.unhide hs)
 |_,_,.emp h=>.emp (cZ h).2
 |_,_,.fn h hs=>.fn (cZ h).2 (RelDs.unhide hs)
 |_,_,.exc n h=>.exc n (cZ h).2
 |_,_,.excF n h h2 hn hs=>.excF n (cZ h).2 (cZ h2).2 hn (RelDs.unhide hs)
 |_,_,.fz h hs=>.fz (cZ h).2 (RelDs.unhide hs)
theorem RelDs.unhide:∀{ds:List D} {vs:List V},RelDs K ι (hZ H p) ds vs->RelDs K ι H ds vs
 |_,_,.nil=>.nil
 |_,_,.cons h hs=>.cons (RelD.unhide h) (RelDs.unhide hs)
end
theorem RelE.hide(Z:H p=ar (.lst ws)):∀{ρ:aQ} {σ:St},RelE K ι H ρ σ->RelE K ι (hZ H p) ρ σ
 |_,_,.nil=>.nil
 |_,_,.cons h t=>.cons (fun d z=>let ⟨v,e1,e2⟩:=h d z;⟨v,e1,e2.hide Z⟩) (RelE.hide Z t)
theorem RelE.unhide:∀{ρ:aQ} {σ:St},RelE K ι (hZ H p) ρ σ->RelE K ι H ρ σ
 |_,_,.nil=>.nil
 |_,_,.cons h t=>.cons (fun d z=>let ⟨v,e1,e2⟩:=h d z;⟨v,e1,e2.unhide⟩) (RelE.unhide t)
theorem Rep.hide(Z:H p=ar (.lst ws))(Y:p∉ι)(r:Rep K ι H S):Rep K ι (hZ H p) S:=
 ⟨r.nd,r.len,fun k a xs e1 e2=>let ⟨vs,h1,h2⟩:=r.get k a xs e1 e2;⟨vs,by rw[hide_ne (fun z=>Y (by rw[<-z];exact Mx e1))];exact h1,h2.hide Z⟩,r.tab.mono fun b o h n=>by rw[hide_ne (fun z=>by subst z;rw[h]at Z;exact n ws (Mn Z))];exact h⟩
theorem Rep.unhide(r:Rep K ι (hZ H p) S):Rep K ι H S:=
 ⟨r.nd,r.len,fun k a xs e1 e2=>let ⟨vs,h1,h2⟩:=r.get k a xs e1 e2;⟨vs,(cZ h1).2,h2.unhide⟩,r.tab.mono fun b o h _=>(cZ h).2⟩
theorem Ext.hide(e:Ext ι H ι' H'):Ext ι (hZ H p) ι' (hZ H' p):=
 ⟨e.ids,fun a o h n t=>by
  obtain⟨Y,Z⟩:=cZ h;obtain⟨U,X⟩:=e.oth a o Z n t;exact⟨by rw[hide_ne Y];exact U,X⟩⟩
theorem Ext.unhide(e:Ext ι H ι' (hZ H' p)):Ext ι H ι' H':=
 ⟨e.ids,fun a o h n t=>by
  obtain⟨Y,Z⟩:=e.oth a o h n t;exact⟨(cZ Y).2,Z⟩⟩
theorem nM{E:XD}{α:Type}{c:M α}{U:List V}{Q:α->List dt->aF->Hp->Prop}(h:cont K gh c ι S (hZ H p) Q)(R:H p=ar (.lst U))(T:p∉ι):
  cont K E c ι S H (fun a ι' Z H'=>H' p=ar (.lst U)/\p∉ι'/\Q a ι' Z (hZ H' p)):=by
 obtain⟨r,Z,e,k⟩:=h;refine⟨r,Z,e,fun ι' H' x rep=>?_⟩;obtain⟨X,Y⟩:=x.oth p _ R T (by intro _ z;cases z)
 have:=k ι' (hZ H' p) x.hide (rep.hide X Y);cases r with
 |ok a=>exact⟨X,Y,this⟩
 |ex y=>exact this.elim
end
def j9(js:List (Option Nat))(ρ:aQ):aQ:=js.map fun o=>o.bind fun j=>(ρ[j]?).join
theorem RelE.blk{K:dV}{ι:List dt}{H:Hp}{ρ:aQ}{X:St}(Y:RelE K ι H ρ X):∀js:List (Option Nat),RelE K ι H (j9 js ρ) (ua js X)
 |[]=>.nil
 |none::js=>.cons (fun d z=>by cases z) (RelE.blk Y js)
 | some j::js=>.cons (fun d z=>by
   have Z:(ρ[j]?).join=ar d:=z;have:ρ[j]? =ar (ar d):=by
    cases q:ρ[j]? with
    |none=>rw[q]at Z;cases Z
    |some o=>rw[q]at Z;exact N4 ar Z
   obtain⟨v,e1,e2⟩:=Y.get this;refine⟨v,?_,e2⟩;show(X[j]?).join=ar v;rw[e1];rfl) (RelE.blk Y js)
def dz(it:Iter)(g:nD)(t:aQ->M Bool)(m:TM):List D->aQ->M (List D)
 |[],ρ=>do jz it;a_ []
 | d::ds,ρ=>do
  jz it
  let ρ1<-g d ρ;let b<-t ρ1
  if b=bc then do
   let y<-m ρ1;let ys<-dz it g t m ds ρ1
   a_ (y::ys)
  else dz it g t m ds ρ1
def i5(it:Iter)(g:nD)(t:aQ->M Bool)(m:TM)(ρ:aQ):M (List D):=if it.items.length<=lim then dz it g t m it.items ρ else M.fail
def Kc(X:Cx)(E:XD)(ifs:List Expr)(t:aQ->M Bool):Prop:=Ir X ifs (GZ X.K E t)
theorem gS:Kc X E [] (fun _=>a_ bc):=fun pins s σ H Q I h=>Eg pins s σ H Q I (by
 obtain⟨ι,S,ρ,rep,re,c⟩:=h;exact aj c .refl rep)
theorem uf(h:SB X E c t):Kc X E [c] t:=Eh h
section
variable {X:Cx}{scope:Scope}{Nc:List Str}{js:List (Option Nat)}{elt tg iter:Expr}{ifs:List Expr}{pos:Pos}{mi:aQ->M Iter}{g:nD}{t:aQ->M Bool}{m:TM}
theorem eB{α Z Y:Type}(c:M α)(f:α->M Z)(h:Z->M Y):((c>>=f)>>=h)=(c>>=fun a=>f a>>=h):=by
 funext S;show M.bnd (M.bnd c f) h S=M.bnd c (fun a=>M.bnd (f a) h) S;unfold M.bnd;cases c S with
 |none=>rfl
 |some r=>
  obtain⟨r,W⟩:=r;cases r<;>rfl
theorem ay{α Z:Type}(a:α)(f:α->M Z):(a_ a>>=f)=f a:=rfl
theorem En{α Z:Type}{c:Prop} [Decidable c](x y:M α)(f:α->M Z):((if c then x else y)>>=f)=if c then x>>=f else y>>=f:=by split<;>rfl
theorem vD(h:tM X.K gh (fun ρ=>do let it<-mi ρ;let ys<-i5 it g t m (j9 js ρ);bJ ys) σ H Q):
  yF (Lo X.K gh mi) js (Kb X.K gh g) (GZ X.K gh t) (tM X.K gh m) σ H Q:=by
 obtain⟨ι,S,ρ,rep,re,c⟩:=h;refine⟨ι,S,ρ,rep,re,az (aq c) fun it W S1 G e1 rep1 o J f p v=>?_⟩;have s:it.items.length<=lim/\cont X.K gh (dz it g t m it.items (j9 js ρ)>>=fun ys=>bJ ys) W S1 G (kT X.K Q):=by
  have U:cont X.K gh ((if it.items.length<=lim then dz it g t m it.items (j9 js ρ)else M.fail)>>=fun ys=>bJ ys) W S1 G (kT X.K Q):=o;by_cases h:it.items.length<=lim
  ·rw[if_pos h]at U;exact⟨h,U⟩
  ·rw[if_neg h]at U;exact(ah (aq U)).elim
 obtain⟨hlen,o⟩:=s;have r:RelE X.K W G (j9 js ρ) (ua js σ):=(re.later rep e1).blk js;refine⟨fun i n A Y=>∃ ι2 S2 ρ2 xs vs,n=it.items.length - i/\i<=it.items.length/\Ext W G ι2 (hZ Y p)/\Rep X.K ι2 (hZ Y p) S2/\RelE X.K ι2 (hZ Y p) ρ2 A/\Y p=ar (.lst vs)/\p∉ι2/\RelDs X.K ι2 (hZ Y p) xs vs/\xs.length<=i/\
  cont X.K gh (dz it g t m (it.items.drop i) ρ2>>=fun ys=>bJ (xs++ys)) ι2 S2 (hZ Y p) (kT X.K Q),⟨_,W,S1,j9 js ρ,[],[],rfl,Mg _,?_,?_,?_,aV,rep1.free v,.nil,Mg _,?_⟩,?_⟩
 ·rw[kz,jK v];exact .refl
 ·rw[kz,jK v];exact rep1
 ·rw[kz,jK v];exact r
 ·rw[kz,jK v];exact o
 rintro i n A Y ⟨ι2,S2,ρ2,xs,vs,hn,hi',e2,rep2,re2,hpc,hpn,rx,hlim,c2⟩;by_cases hlt:i<it.items.length
 ·have hd:it.items.drop i=it.items[i]::it.items.drop (i+1):=Ph hlt;rw[hd]at c2;have L:cont X.K gh (jz it>>=fun _=>g it.items[i] ρ2>>=fun Z=>t Z>>=fun b=>if b=bc then m Z>>=fun y=>dz it g t m (it.items.drop (i+1)) Z>>=fun ys=>bJ (xs++y::ys)else dz it g t m (it.items.drop (i+1)) Z>>=fun ys=>bJ (xs++ys)) ι2 S2 (hZ Y p) (kT X.K Q):=by
   have:(dz it g t m (it.items[i]::it.items.drop (i+1)) ρ2>>=fun ys=>bJ (xs++ys))=(jz it>>=fun _=>g it.items[i] ρ2>>=fun Z=>t Z>>=fun b=>if b=bc then m Z>>=fun y=>dz it g t m (it.items.drop (i+1)) Z>>=fun ys=>bJ (xs++y::ys)else dz it g t m (it.items.drop (i+1)) Z>>=fun ys=>bJ (xs++ys)):=by
    show((jz it>>=fun _=>g it.items[i] ρ2>>=fun Z=>t Z>>=fun b=>if b=bc then m Z>>=fun y=>dz it g t m (it.items.drop (i+1)) Z>>=fun ys=>a_ (y::ys)else dz it g t m (it.items.drop (i+1)) Z)>>=fun ys=>bJ (xs++ys))=_;simp only[eB,En,ay]
   rw[<-this];exact c2
  obtain⟨ok,u⟩:=mL L rep2;obtain⟨l,a4⟩:=f ι2 Y S2 e2.unhide.n rep2.unhide ok i;obtain⟨go,yl⟩:=l it.items[i] (LV hlt);refine .inr ⟨go,fun C O=>∃ ι3 S3 ρ3 xs3 vs3,Ext W G ι3 (hZ O p)/\Rep X.K ι3 (hZ O p) S3/\RelE X.K ι3 (hZ O p) ρ3 C/\O p=ar (.lst vs3)/\p∉ι3/\RelDs X.K ι3 (hZ O p) xs3 vs3/\xs3.length<=i+1/\
   cont X.K gh (dz it g t m (it.items.drop (i+1)) ρ3>>=fun ys=>bJ (xs3++ys)) ι3 S3 (hZ O p) (kT X.K Q),?_,fun x e d=>?_⟩
  ·rintro C O ⟨ι3,S3,ρ3,xs3,vs3,h1,h2,h3,h4,h5,h6,h7,h8⟩;exact⟨_,by omega,ι3,S3,ρ3,xs3,vs3,rfl,hlt,h1,h2,h3,h4,h5,h6,h7,h8⟩
  ·obtain⟨e3,rep3,rd⟩:=yl x e d;obtain⟨j,_⟩:=e3.oth p _ hpc hpn (by intro _ z;cases z)
   have w:Ext ι2 (hZ Y p) ι2 (hZ e p):=e3.hide;have c4:=aq (iG u w);refine⟨ι2,S2,ρ2,it.items[i],rep3,re2.unhide.later rep2.unhide e3,rd,az (nM (E:=gh) c4 j hpn) fun ρ4 ι4 S4 H4 e4 rep4 ⟨hp4,hn4,c5⟩ σ4 re4=>?_⟩;have k:Rep X.K ι4 (hZ H4 p) S4:=rep4.hide hp4 hn4;have q:Ext ι2 (hZ Y p) ι4 (hZ H4 p):=w.trans e4.hide;refine⟨ι4,S4,ρ4,rep4,re4,az (nM (E:=gh) (aq c5) hp4 hn4) fun b ι5 S5 H5 e5 rep5 ⟨hp5,hn5,c6⟩=>?_⟩;have N:Rep X.K ι5 (hZ H5 p) S5:=rep5.hide hp5 hn5;have T:Ext ι2 (hZ Y p) ι5 (hZ H5 p):=q.trans e5.hide;have R:RelE X.K ι5 H5 ρ4 σ4:=re4.later rep4 e5;cases b with
   |false=>
    have I:cont X.K gh (dz it g t m (it.items.drop (i+1)) ρ4>>=fun ys=>bJ (xs++ys)) ι5 S5 (hZ H5 p) (kT X.K Q):=c6;exact⟨ι5,S5,ρ4,xs,vs,e2.trans T,N,R.hide hp5,hp5,hn5,rx.later rep2 T,by omega,I⟩
   |true=>
    have I:cont X.K gh (m ρ4>>=fun y=>dz it g t m (it.items.drop (i+1)) ρ4>>=fun ys=>bJ (xs++y::ys)) ι5 S5 (hZ H5 p) (kT X.K Q):=c6;refine⟨ι5,S5,ρ4,rep5,R,az (nM (E:=gh) (aq I) hp5 hn5) fun y ι6 S6 H6 e6 rep6 ⟨hp6,hn6,c7⟩ yv ry=>?_⟩;have F:Ext ι2 (hZ Y p) ι6 (hZ H6 p):=T.trans e6.hide;have P:Rep X.K ι6 (hZ H6 p) S6:=rep6.hide hp6 hn6;have B:=rx.later rep2 F;have a:vs.length<sizeLine:=by rw[<-B.length];exact Nat.lt_of_le_of_lt (by omega) G3
    refine⟨vs,hp6,a,ι6,S6,ρ4,xs++[y],vs++[yv],?_⟩;rw[kz];refine⟨e2.trans F,P,(R.later rep5 e6).hide hp6,aV,hn6,B.append (.cons (ry.hide hp6) .nil),by simp;omega,by simpa using c7⟩
 ·have hd:it.items.drop i=[]:=List.drop_eq_nil_of_le (by omega)
  rw[hd]at c2;have L:cont X.K gh (jz it>>=fun _=>bJ (xs++[])) ι2 S2 (hZ Y p) (kT X.K Q):=by
   have:(dz it g t m [] ρ2>>=fun ys=>bJ (xs++ys))=(jz it>>=fun _=>bJ (xs++[])):=by
    show((jz it>>=fun _=>a_ [])>>=fun ys=>bJ (xs++ys))=_;simp only[eB,ay]
   rw[<-this];exact c2
  obtain⟨ok,u⟩:=mL L rep2;rw[MI]at u;refine .inl ⟨(f ι2 Y S2 e2.unhide.n rep2.unhide ok i).2 (by omega),?_⟩
  have:=(bD u rep2 rx).2 p mM;rw[BQ hpc]at this;exact this
theorem fO(c:CompScope X scope Nc js)(Y:X.calm=bc)(hi:SI X gh tg iter mi)
  (Z:∀C ex s H,SG (b8 X scope Nc C ex s H) gh tg g/\Kc (b8 X scope Nc C ex s H) gh ifs t/\SE (b8 X scope Nc C ex s H) gh elt m)
  (hs:∀x,oo iter X.env x=a_ x:=by intro _;rfl):SE X gh (.ListComp elt [⟨tg,iter,ifs,0⟩] scope pos) (fun ρ=>do let it<-mi ρ;let ys<-i5 it g t m (j9 js ρ);bJ ys):=
 PE.imp (Ei (g:=Kb X.K gh g) (tt:=GZ X.K gh t) (te:=tM X.K gh m) c Y hi Z hs) fun _ _ _ q=>vD q
theorem xu(i:Nat)(R:X.N.Nodup)(c:CompScope X scope Nc js)(U:X.calm=bc)(hi:SI X gh tg iter mi)
  (Z:∀C ex s H,SG (b8 X scope Nc C ex s H) gh tg g/\Kc (b8 X scope Nc C ex s H) gh ifs t/\SE (b8 X scope Nc C ex s H) gh elt m)
  (W:X.N[i]? =ar x:=by rfl) (Q:Loc X.env.scope x:=by first|exact QZ rfl|exact Qd rfl)
  (Y:ly (.ListComp elt [⟨tg,iter,ifs,0⟩] scope cpos) (ar (.Name x pos')) pos.line X.env=a_ true:=by rfl)
  (P:X.fn x=bc\/X.env.scope.names.lookup x=ar .local:=by first|exact .inl rfl|exact .inr rfl|assumption)
  (hs:∀x,oo iter X.env x=a_ x:=by intro _;rfl):SS X gh (.Assign [.Name x pos'] (.ListComp elt [⟨tg,iter,ifs,0⟩] scope cpos) pos)
   (fun ρ=>do let d<-(do let it<-mi ρ;let ys<-i5 it g t m (j9 js ρ);bJ ys);a_ (.nx (ρ.set i (ar d)))):=by
 refine PS.imp (xr (g:=Kb X.K gh g) (tt:=GZ X.K gh t) (te:=tM X.K gh m) R W Q c U hi Z Y P hs) fun T σ H h=>?_;obtain⟨ι,S,ρ,rep,re,c⟩:=h;refine vD ⟨ι,S,ρ,rep,re,az (aq c) fun d L S1 J e1 rep1 O v r=>?_⟩;exact aj O .refl rep1 _ ((re.later rep e1).set r i)
end
section
variable {P:ee}{w:eM}{K:dV}{mg:Str->Option aC}{base:fg}
def outD:Out->M D
 | .nx _=>a_ .non
 | .ret d=>a_ d
 |_=>M.fail
def oA(N n:Nat)(m:cJ):List D->M D:=fun ds=>if ds.length=n then do let o<-m (ds.map ar++l3 (N - n) none);outD o else M.fail
end
def rQ(f:Int->Int->M D):D->D->M D
 | .int i,.int j=>f i j
 |_,_=>M.fail
theorem kU{K:dV}{E:XD}{g:Int->Int->V}{f:Int->Int->D}(Z:∀ ι H i j,RelD K ι H (f i j) (g i j)):vo K E (rQ fun i j=>a_ (f i j)) (DP g):=by
 intro ι S H X Y v1 v2 Q rep U T c;cases X<;>cases Y<;>first
  |exact(ah c).elim
  |exact⟨_,_,U.int_inv,T.int_inv,aj c .refl rep _ (Z _ _ _ _)⟩
theorem mO{K:dV}{E:XD}{C:Int->Int->Prop} [∀i j,Decidable (C i j)]{g:Int->Int->V}{f:Int->Int->D}(Y:∀ ι H i j,RelD K ι H (f i j) (g i j)):vo K E (rQ fun i j=>if C i j then a_ (f i j)else M.fail) (rI C g):=by
 intro ι S H U X v1 v2 Q rep T R c;cases U<;>cases X<;>first
  |exact(ah c).elim
  | (next i j=>
    have Z:cont K E (if C i j then a_ (f i j)else M.fail) ι S H (kT K Q):=c;by_cases h:C i j
    ·rw[if_pos h]at Z;exact⟨_,_,T.int_inv,R.int_inv,h,aj Z .refl rep _ (Y _ _ _ _)⟩
    ·rw[if_neg h]at Z;exact(ah Z).elim)
def Al:D->D->M D:=rQ fun i j=>a_ (.int (i - j))
instance:∀i j,Decidable (xc i j):=fun i j=>inferInstanceAs (Decidable (_\/_))
instance:∀i j,Decidable (Bp i j):=fun i j=>inferInstanceAs (Decidable (_/\_))
instance:∀i j,Decidable (D5 i j):=fun i j=>inferInstanceAs (Decidable (_/\_))
def ug:D->D->M D:=rQ fun i j=>if xc i j then a_ (.int (i*j))else M.fail
def yH:D->D->M D:=rQ fun i j=>if Bp i j then a_ (.int (i / j))else M.fail
def uh:D->D->M D:=rQ fun i j=>if 0<j then a_ (.int (i % j))else M.fail
def BR:D->D->M D:=rQ fun i j=>if D5 i j then a_ (.int (i ^ j.toNat))else M.fail
def bK:D->D->M D
 | .int i,.int j=>a_ (.int (i+j))
 | .tup xs,.tup ys=>bU (xs++ys)
 | .lst a,.lst b=>do let xs<-getL a;let ys<-getL b;bJ (xs++ys)
 | .lst a,.fz ys=>do let xs<-getL a;bJ (xs++ys)
 | .fz xs,.lst b=>do let ys<-getL b;bJ (xs++ys)
 | .fz xs,.fz ys=>bJ (xs++ys)
 |_,_=>M.fail
def G4:D->D->M D:=rQ fun i j=>a_ (.bl (decide (i<=j)))
def FP:D->D->M D:=rQ fun i j=>a_ (.bl (decide (j<i)))
def K2:D->D->M D:=rQ fun i j=>a_ (.bl (decide (j<=i)))
section
variable {X:Cx}{E:XD}{a b e c:Expr}{m n l:TM}{pos:Pos}
theorem BS(Y:SE X E a m)(Z:SE X E b n):SE X E (.BinOp a .Sub b pos) (fun ρ=>do let x<-m ρ;let y<-n ρ;Al x y):=sE GH (kU fun _ _ _ _=>.int _) Y Z
theorem qg(Y:SE X E a m)(Z:SE X E b n):SE X E (.BinOp a .Mult b pos) (fun ρ=>do let x<-m ρ;let y<-n ρ;ug x y):=sE GI (mO fun _ _ _ _=>.int _) Y Z
theorem yI(Y:SE X E a m)(Z:SE X E b n):SE X E (.BinOp a .FloorDiv b pos) (fun ρ=>do let x<-m ρ;let y<-n ρ;yH x y):=sE D6 (mO fun _ _ _ _=>.int _) Y Z
theorem nN(Y:SE X E a m)(Z:SE X E b n):SE X E (.BinOp a .Mod b pos) (fun ρ=>do let x<-m ρ;let y<-n ρ;uh x y):=sE GJ (mO (C:=fun _ j=>0<j) fun _ _ _ _=>.int _) Y Z
theorem BU(Y:SE X E a m)(Z:SE X E b n):SE X E (.BinOp a .Pow b pos) (fun ρ=>do let x<-m ρ;let y<-n ρ;BR x y):=sE GK (mO fun _ _ _ _=>.int _) Y Z
theorem BV:jF X (t6 .Add) (fun x y H Q=>∃a b ys,x= .ref a/\y= .ref b/\lD X.K H a []/\lD X.K H b ys/\Q (.ref b) H):=by
 intro pins s σ H x y v u Q I A O h;obtain⟨a,b,ys,rfl,rfl,L,J,q⟩:=h;cases A;cases O;obtain⟨its,C,G,_⟩:=I.tuple L;obtain⟨W,z,F,_⟩:=I.tuple J;cases C;obtain⟨⟨cls,dd,data,B⟩,P,R,n,hd⟩:=id G;obtain⟨⟨S,T,data2,U⟩,Z,Y,N,hd2⟩:=id F;simp only at R hd Y hd2;subst R hd Y hd2;exact QO ⟨_,P,rfl⟩ ⟨_,Z,rfl⟩ PQ QA OC Os (Ol _ _)
  (tuple_addW0 a b #[] W.toArray n N dd T B U (by simp)) ⟨P,Z,⟨.ref b,H,I,rfl,q⟩⟩
theorem Inv.lstR{X:Cx}{Z:List (dt×Obj)}{W:L2.St}{H:Hp}{s:b_}{l:dt}{xs:List V}(I:L2.Inv X Z W H s)(Y:Rd H l (.lst xs)):xs.length<=sizeLine/\∃(its:List aC) (n:Nat),bh xs its/\xs.length=its.length/\s.heap.get? l=ar {cls:=.type "list",data:=.seq its.toArray n}:=by
 obtain⟨z,its,n,r,e⟩:=Y.ok I.hok;exact⟨z,its,n,r,r.length,e⟩
def Jo:R2:=fun x y H Q=>∃l b xs zs,x= .ref l/\y= .ref b/\Rd H l (.lst xs)/\Rd H b (.lst zs)/\xs.length+zs.length<=sizeLine/\∀p,H p=none->Q (.ref p) (upd H p (.lst (xs++zs)))
theorem Eo:jF X (t6 .Add) Jo:=by
 intro pins s σ H x y v u Q I S Y h;obtain⟨l,b,xs,zs,rfl,rfl,U,T,J,q⟩:=h;cases S;cases Y;obtain⟨z,its,n,r,N,e⟩:=Inv.lstR I U;obtain⟨K,Z,L,R,W,e2⟩:=Inv.lstR I T;refine PySem.P.add_list e e2 ?_ (by rw[L6,L6];omega)
 have O:its.toArray++Z.toArray=(its++Z).toArray:=by simp
 rw[O];exact⟨.ref _,_,I.lnew (t':=s.toks) (r.append R) (by rw[LW];omega),rfl,q _ I.fresh⟩
theorem b7(F:SE X E a m)(C:SE X E b n):SE X E (.BinOp a .Add b pos) (fun ρ=>do let x<-m ρ;let y<-n ρ;bK x y):=by
 refine sE (GG.or (Ec.or (BV.or Eo))) ?_ F C;intro ι S H B A v1 v2 Q rep O P c;cases B<;>cases A<;>first
  |exact(ah c).elim
  |exact .inl ⟨_,_,O.int_inv,P.int_inv,aj c .refl rep _ (.int _)⟩
  | (next xs ys=>
    obtain⟨p,vs,rfl,U,J⟩:=O.tup_inv;obtain⟨q,ws,rfl,W,L⟩:=P.tup_inv;obtain⟨Y,T⟩:=gH c rep (J.append L);rw[LW]at Y;cases vs with
    |nil=>
     refine .inr (.inr (.inl ⟨p,q,ws,rfl,rfl,.of U,.of W,?_⟩));exact jJ c rep W (J.append L)
    |cons v vs=>
     refine .inr (.inl ⟨p,q,v::vs,ws,rfl,rfl,.of U,.of W,by simp,Ma Y ia,fun z=>?_,fun _=>T⟩)
     subst z;have:=J.append L;rw[MI]at this;exact jJ c rep U this)
  | (next j k=>
    obtain⟨p,rfl,U⟩:=O.lst_inv;obtain⟨q,rfl,W⟩:=P.lst_inv;obtain⟨ds,vs,_,I,R,G⟩:=bC c rep U;obtain⟨es,ws,_,hw,Z,K⟩:=bC G rep W;obtain⟨Y,T⟩:=bD K rep (R.append Z);rw[LW]at Y;exact .inr (.inr (.inr ⟨p,q,vs,ws,rfl,rfl,.inl I,.inl hw,Ma Y ia,T⟩)))
  | (next j ys=>
    obtain⟨p,rfl,U⟩:=O.lst_inv;obtain⟨q,o2,ws,rfl,W,Z⟩:=P.fz_inv;obtain⟨ds,vs,_,I,R,G⟩:=bC c rep U;obtain⟨Y,T⟩:=bD G rep (R.append Z);rw[LW]at Y;exact .inr (.inr (.inr ⟨p,q,vs,ws,rfl,rfl,.inl I,.inr ⟨o2,W⟩,Ma Y ia,T⟩)))
  | (next xs k=>
    obtain⟨p,N,vs,rfl,U,R⟩:=O.fz_inv;obtain⟨q,rfl,W⟩:=P.lst_inv;obtain⟨es,ws,_,hw,Z,K⟩:=bC c rep W;obtain⟨Y,T⟩:=bD K rep (R.append Z);rw[LW]at Y;exact .inr (.inr (.inr ⟨p,q,vs,ws,rfl,rfl,.inr ⟨N,U⟩,.inl hw,Ma Y ia,T⟩)))
  | (next xs ys=>
    obtain⟨p,N,vs,rfl,U,R⟩:=O.fz_inv;obtain⟨q,o2,ws,rfl,W,Z⟩:=P.fz_inv;obtain⟨Y,T⟩:=bD c rep (R.append Z);rw[LW]at Y;exact .inr (.inr (.inr ⟨p,q,vs,ws,rfl,rfl,.inr ⟨N,U⟩,.inr ⟨o2,W⟩,Ma Y ia,T⟩)))
theorem BW(Y:SE X E a m)(Z:SE X E b n):SB X E (.Compare a [.Gt] [b] pos) (fun ρ=>do let z<-(do let x<-m ρ;let y<-n ρ;FP x y);lE z):=lW IZ (kU fun _ _ _ _=>.bl _) Y Z
theorem Jp(Y:SE X E a m)(Z:SE X E b n):SB X E (.Compare a [.GtE] [b] pos) (fun ρ=>do let z<-(do let x<-m ρ;let y<-n ρ;K2 x y);lE z):=lW I0 (kU fun _ _ _ _=>.bl _) Y Z
def intsOf:List D->Option (List Int)
 |[]=>ar []
 | .int i::r=>(intsOf r).map (i::·)
 |_=>none
theorem gI{K:dV}{ι:List dt}{H:Hp}:∀{ds:List D} {vs:List V} {ns:List Int},RelDs K ι H ds vs->intsOf ds=ar ns->vs=ns.map V.int
 |[],vs,ns,h,e=>by cases e;rw[h.nil_inv];rfl
 | .int i::ds,vs,ns,h,e=>by
  obtain⟨v,ws,rfl,Z,Y⟩:=h.cons_inv;cases q:intsOf ds with
  |none=>simp[intsOf,q]at e
  |some ks=>
   simp[intsOf,q]at e;subst e;rw[Z.int_inv,gI Y q];rfl
 | .non::_,_,_,_,e=>by cases e
 | .bl _::_,_,_,_,e=>by cases e
 | .str _::_,_,_,_,e=>by cases e
 | .tup _::_,_,_,_,e=>by cases e
 | .lst _::_,_,_,_,e=>by cases e
 | .ro _::_,_,_,_,e=>by cases e
 | .fz _::_,_,_,_,e=>by cases e
 | .emp::_,_,_,_,e=>by cases e
def lB:D->D->M D
 | .int i,.int j=>a_ (.bl (decide (i<j)))
 | .tup xs,.tup ys=>match intsOf xs,intsOf ys with
  |some ns,ar ms=>a_ (.bl (HT.lexLt ns ms))
  |_,_=>M.fail
 |_,_=>M.fail
theorem xv:vo X.K E lB (fun x y H Q=>DP (fun i j=>.bl (decide (i<j))) x y H Q\/Jd X.K x y H Q):=by
 intro ι S H P R v1 v2 Q rep Z Y c;cases P<;>cases R<;>first
  |exact(ah c).elim
  |exact .inl ⟨_,_,Z.int_inv,Y.int_inv,aj c .refl rep _ (.bl _)⟩
  | (next xs ys=>
    obtain⟨p,vs,rfl,U,O⟩:=Z.tup_inv;obtain⟨q,ws,rfl,W,T⟩:=Y.tup_inv;dsimp only[lB]at c;split at c
    ·next ns ms e1 e2=>
     refine .inr ⟨p,q,ns,ms,rfl,rfl,.of (by rw[<-gI O e1];exact U),.of (by rw[<-gI T e2];exact W),aj c .refl rep _ (.bl _)⟩
    ·exact(ah c).elim)
theorem FQ(W:X.A.units<u4)(Y:SE X E a m)(Z:SE X E b n):SE X E (.Compare a [.Lt] [b] pos) (fun ρ=>do let x<-m ρ;let y<-n ρ;lB x y):=xt (Br.or (xk W)) xv Y Z
theorem oB(W:X.A.units<u4)(Y:SE X E a m)(Z:SE X E b n):SB X E (.Compare a [.Lt] [b] pos) (fun ρ=>do let z<-(do let x<-m ρ;let y<-n ρ;lB x y);lE z):=lW (Br.or (xk W)) xv Y Z
theorem vE(A:vo X.K E f r)(N:vo X.K E g r')
  (h:tM X.K E (fun ρ=>do let x<-m ρ;let y<-n ρ;let z<-f x y;let k<-lE z;if k=bc then do let w<-l ρ;g y w else a_ (.bl c_)) σ H Q):xf r r' (tM X.K E m) (tM X.K E n) (tM X.K E l) σ H Q:=by
 obtain⟨ι,S,ρ,rep,re,c⟩:=h;refine⟨ι,S,ρ,rep,re,az (aq c) fun x U S1 q e1 rep1 u v1 t=>?_⟩;refine⟨U,S1,ρ,rep1,re.later rep e1,az (aq u) fun y T S2 C e2 rep2 J v2 R=>?_⟩;refine A T S2 C x y v1 v2 _ rep2 (t.later rep1 e2) R (az (aq J) fun z Y B p e3 rep3 L o I=>?_);obtain⟨k,rfl,rfl,P⟩:=ud rep3 I L;refine⟨k,rfl,?_⟩;cases k with
 |true=>
  exact⟨Y,B,ρ,rep3,((re.later rep e1).later rep1 e2).later rep2 e3,az (aq P) fun w W F s G Z v v4 O=>N W F s y w v2 v4 Q Z ((R.later rep2 e3).later rep3 G) O v⟩
 |false=>exact aj P .refl rep3 _ (.bl c_)
theorem BX(h:jF X (j_ op) r)(h':jF X (j_ op') r')(S:vo X.K E f r)(U:vo X.K E g r')(W:SE X E a m)(Z:SE X E b n)(Y:SE X E c l)
  (T:QX [op,op'] [b,c]=false:=by with_unfolding_all rfl):
  SE X E (.Compare a [op,op'] [b,c] pos) (fun ρ=>do let x<-m ρ;let y<-n ρ;let z<-f x y;let k<-lE z;if k=bc then do let w<-l ρ;g y w else a_ (.bl c_)):=
 PE.imp (Bt h h' W Z Y T) fun _ _ _ q=>vE S U q
theorem BY(h:jF X (j_ op) r)(h':jF X (j_ op') r')(T:vo X.K E f r)(U:vo X.K E g r')(Y:SE X E a m)(R:SE X E b n)(Z:SE X E c l)
  (J:QX [op,op'] [b,c]=false:=by with_unfolding_all rfl):
  SB X E (.Compare a [op,op'] [b,c] pos) (fun ρ=>do let v<-(do let x<-m ρ;let y<-n ρ;let z<-f x y;let k<-lE z;if k=bc then do let w<-l ρ;g y w else a_ (.bl c_));lE v):=
 PT.imp (Bu h h' Y R Z J) fun σ H Q q=>by
  obtain⟨ι,S,ρ,rep,re,c⟩:=q;refine vE T U (Q:=fun x W=>∃k,x= .bl k/\Q k W) ⟨ι,S,ρ,rep,re,az (aq c) fun x N S1 I e1 rep1 O v1 L=>?_⟩;obtain⟨k,rfl,rfl,P⟩:=qf rep1 L O;exact⟨k,rfl,P⟩
def bA:D->D->M D
 | .lst k,.int i=>do
  let xs<-getL k
  match kd xs i with
  |some d=>a_ d
  |none=>M.fail
 | .tup xs,.int i=>match kd xs i with
  |some d=>a_ d
  |none=>M.fail
 | .ro xs,.int i=>match kd xs i with
  |some d=>a_ d
  |none=>M.fail
 | .fz xs,.int i=>match kd xs i with
  |some d=>a_ d
  |none=>M.fail
 |_,_=>M.fail
theorem pH{K:dV}{ι:List dt}{H:Hp}{ds:List D}{vs:List V}{i:Int}{d:D}(h:RelDs K ι H ds vs)(e:kd ds i=ar d):∃v,kd vs i=ar v/\RelD K ι H d v:=by
 unfold kd at e⊢;rw[h.length]at e;cases q:wZ vs.length i with
 |none=>rw[q]at e;cases e
 |some j=>
  rw[q]at e;exact h.get' e
theorem G5:vo X.K E bA (Ll X.K):=by
 intro ι S H O P v1 v2 Q rep U T c;cases O<;>cases P<;>first
  |exact(ah c).elim
  | (next k i=>
    obtain⟨p,rfl,Z⟩:=U.lst_inv;obtain⟨ds,vs,_,R,Y,W⟩:=bC c rep Z;cases q:kd ds i with
    |none=>rw[q]at W;exact(ah W).elim
    |some d=>
     rw[q]at W;obtain⟨v,e1,e2⟩:=pH Y q;exact .inl ⟨p,vs,i,v,rfl,T.int_inv,.of R,e1,aj W .refl rep _ e2⟩)
  | (next ds i=>
    obtain⟨p,vs,rfl,Z,Y⟩:=U.tup_inv;dsimp only[bA]at c;cases q:kd ds i with
    |none=>rw[q]at c;exact(ah c).elim
    |some d=>
     rw[q]at c;obtain⟨v,e1,e2⟩:=pH Y q;exact .inr (.inl ⟨p,vs,i,v,rfl,T.int_inv,.of Z,e1,aj c .refl rep _ e2⟩))
  | (next ds i=>
    obtain⟨p,vs,rfl,Z,Y⟩:=U.ro_inv;dsimp only[bA]at c;cases q:kd ds i with
    |none=>rw[q]at c;exact(ah c).elim
    |some d=>
     rw[q]at c;obtain⟨v,e1,e2⟩:=pH Y q;exact .inl ⟨p,vs,i,v,rfl,T.int_inv,Z.sq,e1,aj c .refl rep _ e2⟩)
  | (next ds i=>
    obtain⟨p,o,vs,rfl,Z,Y⟩:=U.fz_inv;dsimp only[bA]at c;cases q:kd ds i with
    |none=>rw[q]at c;exact(ah c).elim
    |some d=>
     rw[q]at c;obtain⟨v,e1,e2⟩:=pH Y q;exact .inl ⟨p,vs,i,v,rfl,T.int_inv,.inl (.inr ⟨o,Z⟩),e1,aj c .refl rep _ e2⟩)
theorem aM(Y:SE X E a m)(Z:SE X E b n)(hs:tR b:=by intro _ _;rfl):SE X E (.Subscript a b pos) (fun ρ=>do let x<-m ρ;let y<-n ρ;bA x y):=Jj GV G5 Y Z hs
end
mutual
inductive ReadsV(H:Hp):V->pd->Prop where
 |non:ReadsV H .non .none
 |bl (b:Bool):ReadsV H (.bl b) (.bool b)
 |int (i:Int):ReadsV H (.int i) (.int i)
 |str (x:Str):ReadsV H (.str x) (.str x)
 |lst {a:dt} {vs:List V} {ps:List pd}:Rd H a (.lst vs)->ReadsVs H vs ps->ReadsV H (.ref a) (.list ps)
 |tup {a:dt} {vs:List V} {ps:List pd}:H a=ar (.tup vs)->ReadsVs H vs ps->ReadsV H (.ref a) (.tuple ps)
inductive ReadsVs(H:Hp):List V->List pd->Prop where
 |nil:ReadsVs H [] []
 |cons {v:V} {p:pd} {vs:List V} {ps:List pd}:ReadsV H v p->ReadsVs H vs ps->ReadsVs H (v::vs) (p::ps)
end
mutual
theorem ReadsV.heap(Z:gR P w H h):∀{v:V} {p:pd},ReadsV H v p->∀{u:aC},RelV v u->∃as,Reads h u p as
 |_,_,.non,u,r=>by cases (show u=hJ from r);exact⟨_,.none⟩
 |_,_,.bl b,u,r=>by cases (show u=t4 b from r);exact⟨_,.bool b⟩
 |_,_,.int i,u,r=>by obtain⟨t,rfl⟩:=(show ∃t,u=pe i t from r);exact⟨_,.int i t⟩
 |_,_,.str x,u,r=>by obtain⟨t,rfl⟩:=(show ∃t,u=LI x t from r);exact⟨_,.str x t⟩
 |_,_,@ReadsV.lst _ a vs ps h1 h2,u,r=>by
  cases (show u=er a from r);obtain⟨_,its,n,Y,e⟩:=(show bo P w H h a (.lst vs)from h1.ok Z);obtain⟨as,q⟩:=ReadsVs.heap Z h2 Y;exact⟨_,.list e rfl rfl (by simpa using q)⟩
 |_,_,@ReadsV.tup _ a vs ps h1 h2,u,r=>by
  cases (show u=er a from r);obtain⟨_,its,Y,o,e,c,n,d⟩:=(show bo P w H h a (.tup vs)from Z a _ h1);obtain⟨as,q⟩:=ReadsVs.heap Z h2 Y;exact⟨_,.tuple e c d (by simpa using q)⟩
theorem ReadsVs.heap(Z:gR P w H h):∀{vs:List V} {ps:List pd},ReadsVs H vs ps->∀{us:List aC},bh vs us->∃as,ReadsAll h us ps as
 |_,_,.nil,us,r=>by cases r;exact⟨_,.nil⟩
 | _,_,.cons h1 h2,us,r=>by
  cases r with
  |cons r1 r2=>
   obtain⟨as,q⟩:=ReadsV.heap Z h1 r1;obtain⟨bs,Y⟩:=ReadsVs.heap Z h2 r2;exact⟨_,.cons q Y⟩
end
def mapP(f:D->Option pd):List D->Option (List pd)
 |[]=>ar []
 |d::ds=>match f d,mapP f ds with
  |some p,ar ps=>ar (p::ps)
  |_,_=>none
def ji(S:aF):Nat->D->Option pd
 |_,.non=>ar .none
 |_,.bl b=>ar (.bool b)
 |_,.int i=>ar (.int i)
 |_,.str x=>if PyData.strOk x=bc then ar (.str x)else none
 |n+1,.tup ds=>(mapP (ji S n) ds).map .tuple
 |n+1,.lst k=>(S[k]?).bind fun xs=>(mapP (ji S n) xs).map .list
 |n+1,.fz ds=>(mapP (ji S n) ds).map .list
 |_,_=>none
section
variable {K:dV}{ι:List dt}{S:aF}{H:Hp}
theorem mP{f:D->Option pd}(Z:∀d p v,f d=ar p->RelD K ι H d v->ReadsV H v p/\p.canLay0=bc/\p.depth<=n):
  ∀{ds:List D} {ps:List pd} {vs:List V},mapP f ds=ar ps->RelDs K ι H ds vs->ReadsVs H vs ps/\PyData.canLayAll0 ps=bc/\pz ps<=n
 |[],ps,vs,e,r=>by
  cases e;rw[r.nil_inv];exact⟨.nil,rfl,Mg _⟩
 | d ::ds,ps,vs,e,r=>by
  obtain⟨v,ws,rfl,U,R⟩:=r.cons_inv;unfold mapP at e;cases q:f d with
  |none=>rw[q]at e;cases e
  | some p=>
   rw[q]at e;cases q2:mapP f ds with
   |none=>rw[q2]at e;cases e
   | some ps'=>
    rw[q2]at e;cases e;obtain⟨T,Y,X⟩:=Z d p v q U;obtain⟨k1,k2,k3⟩:=mP Z q2 R;refine⟨.cons T k1,?_,?_⟩
    ·show(PyData.canLay0 p && PyData.canLayAll0 ps')=bc;rw[Y,k2];rfl
    ·show max p.depth (pz ps')<=n;exact Nat.max_le.mpr ⟨X,k3⟩
theorem kX(X:Rep K ι H S):∀(n:Nat) (d:D) (p:pd) (v:V),ji S n d=ar p->RelD K ι H d v->ReadsV H v p/\p.canLay0=bc/\p.depth<=n:=by
 intro n
 induction n with
 | zero=>
  intro d p v e r;cases d with
  |non=>cases e;rw[r.non_inv];exact⟨.non,rfl,LU _⟩
  |bl b=>cases e;rw[r.bl_inv];exact⟨.bl b,rfl,LU _⟩
  |int i=>cases e;rw[r.int_inv];exact⟨.int i,rfl,LU _⟩
  |str x=>
   unfold ji at e;split at e
   ·next hs=>cases e;rw[r.str_inv];exact⟨.str x,hs,LU _⟩
   ·cases e
  |_=>cases e
 | succ n ih=>
  intro d p v e r;cases d with
  |non=>cases e;rw[r.non_inv];exact⟨.non,rfl,Mg _⟩
  |bl b=>cases e;rw[r.bl_inv];exact⟨.bl b,rfl,Mg _⟩
  |int i=>cases e;rw[r.int_inv];exact⟨.int i,rfl,Mg _⟩
  |str x=>
   unfold ji at e;split at e
   ·next hs=>cases e;rw[r.str_inv];exact⟨.str x,hs,Mg _⟩
   ·cases e
  | tup ds=>
   obtain⟨a,vs,rfl,Y,Z⟩:=r.tup_inv;unfold ji at e;cases q:mapP (ji S n) ds with
   |none=>rw[q]at e;cases e
   |some ps=>
    rw[q]at e;cases e;obtain⟨k1,k2,k3⟩:=mP ih q Z;exact⟨.tup Y k1,k2,Oe k3⟩
  | lst k=>
   obtain⟨a,rfl,Y⟩:=r.lst_inv;unfold ji at e;cases z:S[k]? with
   |none=>rw[z]at e;cases e
   | some xs=>
    rw[z]at e;obtain⟨vs,U,Z⟩:=X.get k a xs Y z;cases q:mapP (ji S n) xs with
    |none=>simp[q]at e
    |some ps=>
     simp[q]at e;subst e;obtain⟨k1,k2,k3⟩:=mP ih q Z;exact⟨.lst (.inl U) k1,k2,Oe k3⟩
  |ro ds=>cases e
  | fz ds=>
   obtain⟨a,o,vs,rfl,Y,Z⟩:=r.fz_inv;unfold ji at e;cases q:mapP (ji S n) ds with
   |none=>rw[q]at e;cases e
   |some ps=>
    rw[q]at e;cases e;obtain⟨k1,k2,k3⟩:=mP ih q Z;exact⟨.lst (.inr ⟨o,Y⟩) k1,k2,Oe k3⟩
  |emp=>cases e
  |fn a c q ds vs=>cases e
  |exc x ds=>cases e
end
def Iu(f:pd->pd->Bool):D->D->M D:=fun a b S=>match ji S 60 a,ji S 60 b with
 |some p,ar q=>ar (.ok (.bl (f p q)),S)
 |_,_=>none
def rR:D->D->M D:=Iu gc
def ib:D->D->M D:=Iu fun p q=> !gc p q
def K3(f:Bool->Bool):pd->pd->Option Bool
 |d,.list xs=>ar (f (xs.any fun y=>gc y d))
 |d,.tuple xs=>ar (f (xs.any fun y=>gc y d))
 |_,_=>none
def Jq(f:Bool->Bool):D->D->M D:=fun a b S=>match ji S 60 a,ji S 60 b with
 |some p,ar q=>match K3 f p q with
  |some r=>ar (.ok (.bl r),S)
  |none=>none
 |_,_=>none
def inD:D->D->M D:=Jq id
section
variable {X:Cx}{E:XD}{a b e:Expr}{m n:TM}{pos:Pos}
def G6(f:pd->pd->Bool):R2:=fun x y H Q=>∃p q,(ReadsV H x p/\p.canLay0=bc/\p.depth<=60)/\(ReadsV H y q/\q.canLay0=bc/\q.depth<=60)/\Q (.bl (f p q)) H
theorem kY{p:pd}(h:p.canLay0=bc)(Z:p.depth<=60):SeqAt.shaped p=true:=by
 unfold SeqAt.shaped;rw[h,M4];exact L8 (by omega)
theorem BZ(O:X.A.units+64<u4):jF X (j_ .Eq) (G6 gc):=by
 intro pins s σ H x y v u Q I P W h;obtain⟨p,q,⟨S,R,T⟩,⟨N,U,Z⟩,h⟩:=h;obtain⟨as,Y⟩:=S.heap I.hok P;obtain⟨bs,L⟩:=N.heap I.hok W;exact eq_dataH Y L (kY R T) (kY U Z) O ⟨.bl _,H,I,rfl,h⟩
theorem G7(O:X.A.units+64<u4):jF X (j_ .NotEq) (G6 fun p q=> !gc p q):=by
 intro pins s σ H x y v u Q I P W h;obtain⟨p,q,⟨S,R,T⟩,⟨N,U,Z⟩,h⟩:=h;obtain⟨as,Y⟩:=S.heap I.hok P;obtain⟨bs,L⟩:=N.heap I.hok W;exact ne_dataH Y L (kY R T) (kY U Z) O ⟨.bl _,H,I,rfl,h⟩
theorem ui:vo X.K E (Iu f) (G6 f):=by
 intro ι S H Y Z v1 v2 Q rep W U c;obtain⟨r,T,e,k⟩:=c;unfold Iu at e;split at e
 ·next p q hp hq=>
  cases e;exact⟨p,q,kX rep 60 Y p v1 hp W,kX rep 60 Z q v2 hq U,k ι H .refl rep _ (.bl _)⟩
 ·cases e
theorem yJ(W:X.A.units+64<u4)(Y:SE X E a m)(Z:SE X E b n):SE X E (.Compare a [.Eq] [b] pos) (fun ρ=>do let x<-m ρ;let y<-n ρ;rR x y):=xt (BZ W) ui Y Z
theorem FR(W:X.A.units+64<u4)(Y:SE X E a m)(Z:SE X E b n):SB X E (.Compare a [.Eq] [b] pos) (fun ρ=>do let z<-(do let x<-m ρ;let y<-n ρ;rR x y);lE z):=lW (BZ W) ui Y Z
theorem i6(W:X.A.units+64<u4)(Y:SE X E a m)(Z:SE X E b n):SB X E (.Compare a [.NotEq] [b] pos) (fun ρ=>do let z<-(do let x<-m ρ;let y<-n ρ;ib x y);lE z):=lW (G7 W) ui Y Z
def Jr(f:Bool->Bool):R2:=fun x y H Q=>∃p q r,(ReadsV H x p/\p.canLay0=bc/\p.depth<=60)/\(ReadsV H y q/\q.canLay0=bc/\q.depth<=60)/\K3 f p q=ar r/\Q (.bl r) H
theorem yK:vo X.K E (Jq f) (Jr f):=by
 intro ι S H Y Z v1 v2 Q rep W U c;obtain⟨r,T,e,k⟩:=c;unfold Jq at e;split at e
 ·next p q hp hq=>
  split at e
  ·next r hr=>
   cases e;exact⟨p,q,r,kX rep 60 Y p v1 hp W,kX rep 60 Z q v2 hq U,hr,k ι H .refl rep _ (.bl _)⟩
  ·cases e
 ·cases e
theorem xw(h:(Qf xs).depth<=60):pz xs<=60:=OI h
theorem oC(h:(w8 xs).depth<=60):pz xs<=60:=OI h
theorem B0(K:X.A.units+64<u4):jF X (j_ .In) (Jr id):=by
 intro pins s σ H x y v u Q I O R h;obtain⟨p,q,r,⟨P,T,L⟩,⟨N,U,Y⟩,Z,h⟩:=h;obtain⟨as,W⟩:=P.heap I.hok O;obtain⟨bs,S⟩:=N.heap I.hok R;cases q with
 |list xs=>
  cases Z;exact SeqAt.in_list_reads S W U T (by have:=xw Y;have:min (pz xs) p.depth<=60:=Ma (P2 _ _) this;omega) ⟨.bl _,H,I,rfl,h⟩
 |tuple xs=>
  cases Z;exact SeqAt.in_tuple_reads S W U T (by have:=oC Y;have:min (pz xs) p.depth<=60:=Ma (P2 _ _) this;omega) ⟨.bl _,H,I,rfl,h⟩
 |_=>cases Z
theorem FS(Y:X.A.units+64<u4)(U:SE X E a m)(Z:SE X E b n)(W:n0 .In b=false:=by rfl):SE X E (.Compare a [.In] [b] pos) (fun ρ=>do let x<-m ρ;let y<-n ρ;inD x y):=xt (B0 Y) yK U Z W
theorem B1(Y:X.A.units+64<u4)(U:SE X E a m)(Z:SE X E b n)(W:n0 .In b=false:=by rfl):SB X E (.Compare a [.In] [b] pos) (fun ρ=>do let z<-(do let x<-m ρ;let y<-n ρ;inD x y);lE z):=lW (B0 Y) yK U Z W
end
section
variable {X:Cx}{E:XD}{a b e c:Expr}{m n l:TM}{pos p2:Pos}{es:List Expr}{ms:aQ->M (List D)}
def Js(f:Bool->Bool):D->D->M D
 | .bl i,.bl j=>a_ (.bl (f (i==j)))
 |d,.non=>match d with
  | .non=>a_ (.bl (f bc))
  |_=>a_ (.bl (f c_))
 |_,_=>M.fail
theorem Jt:jF X (j_ .Is) (fun x y H Q=>∃i j,x= .bl i/\y= .bl j/\Q (.bl (i==j)) H):=by
 intro pins s σ H x y v u Q I Y Z h;obtain⟨i,j,rfl,rfl,q⟩:=h;cases Y;cases Z;exact is_bool ⟨.bl _,H,I,rfl,q⟩
theorem G8{f:Bool->Bool}:vo X.K E (Js f) (fun x y H Q=>(∃i j,x= .bl i/\y= .bl j/\Q (.bl (f (i==j))) H)\/(y= .non/\Q (.bl (f (decide (x= .non)))) H)):=by
 intro ι S H Y U v1 v2 Q rep Z W c;cases U with
 |non=>
  refine .inr ⟨W.non_inv,?_⟩;cases Y with
  |non=>rw[Z.non_inv];exact aj c .refl rep _ (.bl _)
  |bl i=>rw[Z.bl_inv];exact aj c .refl rep _ (.bl _)
  |int i=>rw[Z.int_inv];exact aj c .refl rep _ (.bl _)
  |str i=>rw[Z.str_inv];exact aj c .refl rep _ (.bl _)
  |tup ds=>obtain⟨p,vs,rfl,_,_⟩:=Z.tup_inv;exact aj c .refl rep _ (.bl _)
  |lst k=>obtain⟨p,rfl,_⟩:=Z.lst_inv;exact aj c .refl rep _ (.bl _)
  |ro ds=>obtain⟨p,vs,rfl,_,_⟩:=Z.ro_inv;exact aj c .refl rep _ (.bl _)
  |fz ds=>obtain⟨p,_,vs,rfl,_,_⟩:=Z.fz_inv;exact aj c .refl rep _ (.bl _)
  |emp=>cases Z;exact aj c .refl rep _ (.bl _)
  |fn a c q ds vs=>cases Z;exact aj c .refl rep _ (.bl _)
  |exc x ds=>cases Z<;>exact aj c .refl rep _ (.bl _)
 |bl j=>
  cases Y with
  |bl i=>exact .inl ⟨i,j,Z.bl_inv,W.bl_inv,aj c .refl rep _ (.bl _)⟩
  |_=>exact(ah c).elim
 |_=>cases Y<;>exact(ah c).elim
theorem Ju(Y:SE X E a m)(Z:SE X E b n):SB X E (.Compare a [.Is] [b] pos) (fun ρ=>do let z<-(do let x<-m ρ;let y<-n ρ;Js id x y);lE z):=lW (Jt.or GN) (G8 (f:=id)) Y Z
def Lp:D->M Int
 | .int i=>a_ i
 |_=>M.fail
def LG(K:dV)(E:XD)(m:aQ->M (Option Int)):TO:=fun σ H Q=>∃ ι S ρ,Rep K ι H S/\RelE K ι H ρ σ/\cont K E (m ρ) ι S H (fun o _ _ H'=>Q o H')
def SO(X:Cx)(E:XD)(o:Option Expr)(m:aQ->M (Option Int)):Prop:=PO X o (LG X.K E m)
theorem PO.imp{X:Cx}{e:Option Expr}{t t':TO}(h:PO X e t)(k:∀ σ H Q,t' σ H Q->t σ H Q):PO X e t':=fun pins s σ H Q I hw=>h pins s σ H Q I (k σ H Q hw)
theorem gi:SO X E none (fun _=>a_ none):=by
 refine PO.imp Eb fun σ H Q h=>?_;obtain⟨ι,S,ρ,rep,re,c⟩:=h;exact aj c .refl rep
theorem gj(h:SE X E e m):SO X E (ar e) (fun ρ=>do let x<-m ρ;let i<-Lp x;a_ (ar i)):=by
 refine PO.imp (yA h) fun σ H Q h=>?_;obtain⟨ι,S,ρ,rep,re,c⟩:=h;refine⟨ι,S,ρ,rep,re,az (aq c) fun x Y S1 W e1 rep1 Z v r=>?_⟩;cases x with
 |int i=>exact⟨i,r.int_inv,aj (aj (aq Z) .refl rep1) .refl rep1⟩
 |_=>exact(ah (aq Z)).elim
def cutD(xs:List D)(lo hi:Option Int):List D:=(xs.drop (HT.sIx xs.length 0 lo)).take (HT.sIx xs.length xs.length hi - HT.sIx xs.length 0 lo)
theorem pI{K:dV}{ι:List dt}{H:Hp}{ds:List D}{vs:List V}(lo hi:Option Int)(h:RelDs K ι H ds vs):RelDs K ι H (cutD ds lo hi) (rM vs lo hi):=by
 unfold cutD rM;rw[h.length];exact(h.drop _).take _
def uj:D->Option Int->Option Int->M D
 | .tup xs,lo,hi=>bU (cutD xs lo hi)
 | .lst k,lo,hi=>do let xs<-getL k;bJ (cutD xs lo hi)
 | .fz xs,lo,hi=>bJ (cutD xs lo hi)
 |_,_,_=>M.fail
theorem Ep:FM X (fun x lo hi H Q=>∃a xs,x= .ref a/\lD X.K H a xs/\(HT.sIx xs.length 0 lo=0/\HT.sIx xs.length xs.length hi=xs.length)/\Q (.ref a) H):=by
 intro pins s σ H x v L J lo hi P Q I O hs T pu h;obtain⟨a,xs,rfl,R,hw,q⟩:=h;cases O;obtain⟨its,r,Z,N⟩:=I.tuple R;have hlen:its.toArray.size=xs.length:=by rw[L6];exact r.length.symm
 refine⟨"tuple",_,PyProof.Rows.slot_tuple_getitem.lookup,Z.typeIs,?_⟩;have fin:EP X pins σ Q (.ref a) s:=⟨.ref a,H,I,rfl,q⟩;obtain⟨os,Y,U,S⟩:=id hs;have W:s.TypeIs (.ref P) "slice":=⟨os,Y,U⟩;unfold Qv
 try with_reducible refine ME ?_
 first|refine LP (LS ?_)|skip
 refine LP (Pr Z.typeIs (by decide) ?_)
 refine LP (wpAny_callSpecial?_slot (name:=hO "__getitem__") Z.typeIs MP
  (ML MP Z.typeIs O3 ?_ (Pe _ _)))
 show eb _ _ (t8 (.ref a)>>=_) _ _ s;refine LP (QB Z (LP (NY W ?_)));rw[if_pos (by decide)]
 refine LP (HT.sliceApplied_gen hs T pu ?_);rw[hlen,hw.1,hw.2];show eb _ _ (if ((((0:Nat):Int))==0 && (1:Int)==1 && (xs.length - 0)==xs.length)=bc then _ else _) _ _ s;rw[if_pos (by simp)]
 unfold Builtin.Tuple.tupleIsExact;refine LP (LP (NY Z.typeIs (LS ?_)));rw[if_pos (by decide)]
 first
  |exact LP (O0 (LS ⟨_,rfl,LS fin⟩))
  |exact LP (O0 (LP (LS (LS ⟨_,rfl,LS fin⟩))))
theorem xx{xs:List V}{lo hi:Option Int}(h:HT.sIx xs.length 0 lo=0/\HT.sIx xs.length xs.length hi=xs.length):rM xs lo hi=xs:=by
 unfold rM;rw[h.1,h.2,Qj,Nat.sub_zero,List.take_length]
theorem eS{lo hi:Option Expr}{ml O:aQ->M (Option Int)}(L:SE X E e m)(N:SO X E lo ml)(C:SO X E hi O):
  SE X E (.Subscript e (.Slice lo hi none p2) pos) (fun ρ=>do let x<-m ρ;let i<-ml ρ;let j<-O ρ;uj x i j):=by
 refine PE.imp (BA (GS.or (Ep.or Ee)) L N C) fun σ H Q h=>?_;obtain⟨ι,S,ρ,rep,re,c⟩:=h;refine⟨ι,S,ρ,rep,re,az (aq c) fun x T S1 B e1 rep1 F v r=>?_⟩;refine⟨T,S1,ρ,rep1,re.later rep e1,az (aq F) fun i R S2 z e2 rep2 J=>?_⟩;refine⟨R,S2,ρ,rep2,(re.later rep e1).later rep1 e2,az (aq J) fun j K y A e3 rep3 Y=>?_⟩;have W:=(r.later rep1 e2).later rep2 e3;cases x with
 | tup ds=>
  obtain⟨p,vs,rfl,Z,P⟩:=W.tup_inv;by_cases hw:HT.sIx vs.length 0 i=0/\HT.sIx vs.length vs.length j=vs.length
  ·refine .inr (.inl ⟨p,vs,rfl,.of Z,hw,jJ Y rep3 Z ?_⟩);have:=pI i j P;rw[xx hw]at this;exact this
  ·exact .inl ⟨p,vs,rfl,.of Z,hw,(gH Y rep3 (pI i j P)).2⟩
 |lst k=>
  obtain⟨p,rfl,Z⟩:=W.lst_inv;obtain⟨ds,vs,_,I,U,G⟩:=bC Y rep3 Z;exact .inr (.inr ⟨p,vs,rfl,.of I,(bD G rep3 (pI i j U)).2⟩)
 |fz ds=>
  obtain⟨p,o,vs,rfl,Z,U⟩:=W.fz_inv;exact .inr (.inr ⟨p,vs,rfl,.inl (.inr ⟨o,Z⟩),(bD Y rep3 (pI i j U)).2⟩)
 |_=>exact(ah Y).elim
end
section
variable {X:Cx}{E:XD}{a b e c o:Expr}{m n l:TM}{pos p2:Pos}{es:List Expr}{ms:aQ->M (List D)}
def cz:List D->M D
 |[.lst k]=>do let xs<-getL k;a_ (.int xs.length)
 |[.tup ds]=>a_ (.int ds.length)
 |[.ro ds]=>a_ (.int ds.length)
 |[.fz ds]=>a_ (.int ds.length)
 |_=>M.fail
theorem Am:lF X.K E cz (fun xs H Q=>∃p ys,xs=[.ref p]/\(kg X.K H p ys\/lD X.K H p ys)/\Q (.int ys.length) H):=by
 intro ι S H ds vs Q rep r c
 match ds,r,c with
 |[.lst k],r,c=>
  obtain⟨v,ws,rfl,W,U⟩:=r.cons_inv;cases U.nil_inv;obtain⟨p,rfl,Z⟩:=W.lst_inv;obtain⟨es,us,_,T,Y,R⟩:=bC c rep Z;refine⟨p,us,rfl,.inl (.of T),?_⟩;have:=aj R .refl rep _ (.int _);rw[Y.length]at this;exact this
 |[.tup es],r,c=>
  obtain⟨v,ws,rfl,W,U⟩:=r.cons_inv;cases U.nil_inv;obtain⟨p,us,rfl,Z,Y⟩:=W.tup_inv;refine⟨p,us,rfl,.inr (.of Z),?_⟩;have:=aj c .refl rep _ (.int _);rw[Y.length]at this;exact this
 |[.ro es],r,c=>
  obtain⟨v,ws,rfl,W,U⟩:=r.cons_inv;cases U.nil_inv;obtain⟨p,us,rfl,Z,Y⟩:=W.ro_inv;refine⟨p,us,rfl,.inl Z.sq,?_⟩;have:=aj c .refl rep _ (.int _);rw[Y.length]at this;exact this
 |[.fz es],r,c=>
  obtain⟨v,ws,rfl,W,U⟩:=r.cons_inv;cases U.nil_inv;obtain⟨p,o,us,rfl,Z,Y⟩:=W.fz_inv;refine⟨p,us,rfl,.inl (.inl (.inr ⟨o,Z⟩)),?_⟩;have:=aj c .refl rep _ (.int _);rw[Y.length]at this;exact this
 |[],r,c=>exact(ah c).elim
 |[.non],r,c=>exact(ah c).elim
 |[.bl _],r,c=>exact(ah c).elim
 |[.int _],r,c=>exact(ah c).elim
 |[.str _],r,c=>exact(ah c).elim
 |[.emp],r,c=>exact(ah c).elim
 |d::d2::r',r,c=>cases d<;>exact(ah c).elim
theorem eI(Y:X.mg "len"=none)(W:SE X E e m)(Z:Gl X "len":=by rfl)(hs:d_ [e] X.env=[(c_,gg e X.env)]:=by rfl):SE X E (.Call (.Name "len" p) [e] [] pos) (fun ρ=>do let ds<-(do let x<-m ρ;let xs<-a_ [];a_ (x::xs));cz ds):=
 jx tT Am Z Y PySem.boot_len (af W ai hs) (by decide) (by decide) hs rfl
def yL(f:Int->Int->Int):List D->M D
 |[.int i,.int j]=>a_ (.int (f i j))
 |_=>M.fail
theorem qh{f:Int->Int->Int}:lF X.K E (yL f) (fun xs H Q=>∃i j,xs=[.int i,.int j]/\Q (.int (f i j)) H):=by
 intro ι S H ds vs Q rep r c;unfold yL at c;split at c
 ·next i j=>
  obtain⟨v,ws,rfl,W,U⟩:=r.cons_inv;obtain⟨R,T,rfl,Y,Z⟩:=U.cons_inv;cases Z.nil_inv;rw[W.int_inv,Y.int_inv];exact⟨i,j,rfl,aj c .refl rep _ (.int _)⟩
 ·exact(ah c).elim
def maxD:List D->M D:=yL fun i j=>if j>i then j else i
def minD:List D->M D:=yL fun i j=>if j<i then j else i
theorem lY(Y:X.calm=bc)(U:X.mg "max"=none)(T:SA X E [a,b] ms)(W:Gl X "max":=by rfl)(hs:d_ [a,b] X.env=[(c_,gg a X.env),(c_,gg b X.env)]:=by rfl)(Z:d_ [b] X.env=[(c_,gg b X.env)]:=by rfl):
  SE X E (.Call (.Name "max" p) [a,b] [] pos) (fun ρ=>do let ds<-ms ρ;maxD ds):=
 jx (z8 Y) qh W U (by decide+kernel) T (by decide) (by decide) (by rw[hs,Z]) (by rw[Z];rfl)
theorem lZ(Y:X.calm=bc)(U:X.mg "min"=none)(T:SA X E [a,b] ms)(W:Gl X "min":=by rfl)(hs:d_ [a,b] X.env=[(c_,gg a X.env),(c_,gg b X.env)]:=by rfl)(Z:d_ [b] X.env=[(c_,gg b X.env)]:=by rfl):
  SE X E (.Call (.Name "min" p) [a,b] [] pos) (fun ρ=>do let ds<-ms ρ;minD ds):=
 jx (z9 Y) qh W U (by decide+kernel) T (by decide) (by decide) (by rw[hs,Z]) (by rw[Z];rfl)
def mQ:List D->M D
 |[.lst k]=>do let xs<-getL k;bJ xs
 |[.tup ds]=>bJ ds
 |[.ro ds]=>bJ ds
 |[.fz ds]=>bJ ds
 |_=>M.fail
def cY:List D->M D
 |[.lst k]=>do let xs<-getL k;bU xs
 |[.tup ds]=>bU ds
 |[.fz ds]=>bU ds
 |_=>M.fail
theorem xy:lF X.K E mQ (fun xs H Q=>∃p ys,xs=[.ref p]/\(kg X.K H p ys\/lD X.K H p ys)/\∀l,H l=none->Q (.ref l) (upd H l (.lst ys))):=by
 intro ι S H ds vs Q rep r c;unfold mQ at c;split at c
 ·next k=>
  obtain⟨v,ws,rfl,W,U⟩:=r.cons_inv;cases U.nil_inv;obtain⟨p,rfl,Z⟩:=W.lst_inv;obtain⟨es,us,_,T,Y,R⟩:=bC c rep Z;exact⟨p,us,rfl,.inl (.of T),(bD R rep Y).2⟩
 ·next es=>
  obtain⟨v,ws,rfl,W,U⟩:=r.cons_inv;cases U.nil_inv;obtain⟨p,us,rfl,Z,Y⟩:=W.tup_inv;exact⟨p,us,rfl,.inr (.of Z),(bD c rep Y).2⟩
 ·next es=>
  obtain⟨v,ws,rfl,W,U⟩:=r.cons_inv;cases U.nil_inv;obtain⟨p,us,rfl,Z,Y⟩:=W.ro_inv;exact⟨p,us,rfl,.inl Z.sq,(bD c rep Y).2⟩
 ·next es=>
  obtain⟨v,ws,rfl,W,U⟩:=r.cons_inv;cases U.nil_inv;obtain⟨p,o,us,rfl,Z,Y⟩:=W.fz_inv;exact⟨p,us,rfl,.inl (.inl (.inr ⟨o,Z⟩)),(bD c rep Y).2⟩
 ·exact(ah c).elim
theorem vF:lF X.K E cY (fun xs H Q=>∃p ys,xs=[.ref p]/\((kg X.K H p ys/\∀l,H l=none->Q (.ref l) (upd H l (.tup ys)))\/(lD X.K H p ys/\Q (.ref p) H))):=by
 intro ι S H ds vs Q rep r c;unfold cY at c;split at c
 ·next k=>
  obtain⟨v,ws,rfl,W,U⟩:=r.cons_inv;cases U.nil_inv;obtain⟨p,rfl,Z⟩:=W.lst_inv;obtain⟨es,us,_,T,Y,R⟩:=bC c rep Z;exact⟨p,us,rfl,.inl ⟨.of T,(gH R rep Y).2⟩⟩
 ·next es=>
  obtain⟨v,ws,rfl,W,U⟩:=r.cons_inv;cases U.nil_inv;obtain⟨p,us,rfl,Z,Y⟩:=W.tup_inv;exact⟨p,us,rfl,.inr ⟨.of Z,jJ c rep Z Y⟩⟩
 ·next es=>
  obtain⟨v,ws,rfl,W,U⟩:=r.cons_inv;cases U.nil_inv;obtain⟨p,o,us,rfl,Z,Y⟩:=W.fz_inv;exact⟨p,us,rfl,.inl ⟨.inl (.inr ⟨o,Z⟩),(gH c rep Y).2⟩⟩
 ·exact(ah c).elim
theorem yM(Y:X.mg "list"=none)(W:SE X E e m)(Z:Gl X "list":=by rfl)(hs:d_ [e] X.env=[(c_,gg e X.env)]:=by rfl):SE X E (.Call (.Name "list" p) [e] [] pos) (fun ρ=>do let ds<-(do let x<-m ρ;let xs<-a_ [];a_ (x::xs));mQ ds):=
 sF tU xy Z Y (by decide+kernel) (af W ai hs) (by decide) (by decide) hs rfl
theorem eT(Y:X.mg "tuple"=none)(W:SE X E e m)(Z:Gl X "tuple":=by rfl)(hs:d_ [e] X.env=[(c_,gg e X.env)]:=by rfl):SE X E (.Call (.Name "tuple" p) [e] [] pos) (fun ρ=>do let ds<-(do let x<-m ρ;let xs<-a_ [];a_ (x::xs));cY ds):=
 sF rO vF Z Y (by decide+kernel) (af W ai hs) (by decide) (by decide) hs rfl
def Er(H:Hp):V->Option String
 | .non=>ar "NoneType"
 | .bl _=>ar "bool"
 | .int _=>ar "int"
 | .str _=>ar "str"
 | .ref a=>match H a with
  |some (.lst _)=>ar "list"
  |some (.frz _ (.lst _))=>ar "list"
  |some (.tup _)=>ar "tuple"
  |some (.dK _)=>ar "dict"
  |_=>none
 |_=>none
theorem B2{K:dV}{H:Hp}{v:V}{T:String}(h:Er H v=ar T):TyOf K H v (.type T):=by
 cases v with
 |non=>cases h;exact .non
 |bl b=>cases h;exact .bl b
 |int i=>cases h;exact .int i
 |str x=>cases h;exact .str x
 |ref a=>
  simp only[Er]at h;split at h
  ·next q=>cases h;exact .lst q
  ·next q=>cases h;exact .frz q
  ·next q=>cases h;exact .tup q
  ·next q=>cases h;exact .dK q
  ·cases h
 |_=>cases h
def B3:D->String
 | .non=>"NoneType"
 | .bl _=>"bool"
 | .int _=>"int"
 | .str _=>"str"
 | .tup _=>"tuple"
 | .lst _=>"list"
 | .ro _=>"list"
 | .fz _=>"list"
 | .emp=>"dict"
 | .fn _ _ _ _ _=>"NoneType"
 | .exc _ _=>"NoneType"
def vG:D->Bool
 | .ro _=>c_
 | .fn _ _ _ _ _=>c_
 | .exc _ _=>c_
 |_=>bc
theorem B4{K:dV}{ι:List dt}{S:aF}{H:Hp}{d:D}{v:V}(Y:Rep K ι H S)(r:RelD K ι H d v)(Z:vG d=bc):Er H v=ar (B3 d):=by
 cases r with
 |non=>rfl
 |bl=>rfl
 |int=>rfl
 |str=>rfl
 |tup h _=>simp[Er,h,B3]
 |lst h=>
  obtain⟨vs,e⟩:=Y.isL (Mx h);simp[Er,e,B3]
 |ro h _=>cases Z
 |fz h _=>simp[Er,h,B3]
 |emp h=>simp[Er,h,B3]
 |fn=>cases Z
 |exc=>cases Z
 |excF=>cases Z
def An(f:String->Bool):D->M D
 | .ro _=>M.fail
 | .fn _ _ _ _ _=>M.fail
 | .exc _ _=>M.fail
 |d=>a_ (.bl (f (B3 d)))
theorem vH{K:dV}{E:XD}{ι:List dt}{S:aF}{H:Hp}{f:String->Bool}{d:D}{Q:D->List dt->aF->Hp->Prop}(c:cont K E (An f d) ι S H Q):vG d=bc/\cont K E (a_ (.bl (f (B3 d)))) ι S H Q:=by
 cases d with
 |ro ds=>exact(ah c).elim
 |fn a c' q ds vs=>exact(ah c).elim
 |exc x ds=>exact(ah c).elim
 |_=>exact⟨rfl,c⟩
def iI(t T:String):Bool:=t==T||(t=="bool" && T=="int")
theorem uk(K:dV)(t:String)(Y:t∈["NoneType","bool","int","str","tuple","list","dict"])(T:String)(Z:T∈["bool","int","str","tuple","list"]):ri K (.type t) (.type T)=ar (iI t T):=by
 simp only[f_,fb,or_false]at Y Z;rcases Y with rfl|rfl|rfl|rfl|rfl|rfl|rfl<;>rcases Z with rfl|rfl|rfl|rfl|rfl<;>rfl
theorem yN(d:D):B3 d∈["NoneType","bool","int","str","tuple","list","dict"]:=by cases d<;>simp[B3]
theorem B5:dX X (.builtin "isinstance") (fun xs H Q=>∃x t T,xs=[x,.ty T]/\Er H x=ar t/\t∈["NoneType","bool","int","str","tuple","list","dict"]/\T∈["bool","int","str","tuple","list"]/\Q (.bl (iI t T)) H):=by
 intro pins s σ H xs us Q I r h;obtain⟨x,t,T,rfl,W,Y,P,q⟩:=h;obtain⟨u,R,rfl,U,Z⟩:=vals2 r;cases (show R=t5 T from Z);exact Ac I U (B2 W) (uk X.K t Y T P) fun S=>⟨.bl _,H,I.tok S,rfl,q⟩
theorem gk{p q:Pos}{T:Str}{Ts:String}(I:X.mg "isinstance"=none)(P:X.mg T=none)(N:SE X E e m)(O:lx T=ar (.type Ts):=by decide+kernel)(Y:Ts∈["bool","int","str","tuple","list"]:=by decide)(L:Gl X "isinstance":=by rfl)(R:Gl X T:=by rfl)
  (J:T≠"__name__":=by decide) (W:(T==("__debug__":Str))=false:=by decide)
  (hs:d_ [e,.Name T q] X.env=[(c_,gg e X.env),(c_,gg (.Name T q) X.env)]:=by rfl) (Z:d_ [.Name T q] X.env=[(c_,gg (.Name T q) X.env)]:=by rfl):
  SE X E (.Call (.Name "isinstance" p) [e,.Name T q] [] pos) (fun ρ=>do let x<-m ρ;An (fun t=>iI t Ts) x):=by
 refine PE.imp (ki B5 L I (by decide+kernel) (fM N (fM (pG R P O (v:=.ty Ts) rfl J W) kh Z) (by rw[hs,Z])) (by decide) (by decide) (by rw[hs,Z]) (by rw[Z];rfl)) fun σ H Q h=>?_
 obtain⟨ι,S,ρ,rep,re,c⟩:=h;refine⟨ι,S,ρ,rep,re,az (aq c) fun x K S1 G e1 rep1 U v r=>?_⟩;obtain⟨W,U⟩:=vH U;exact⟨v,B3 x,Ts,rfl,B4 rep1 r W,yN x,Y,aj U .refl rep1 _ (.bl _)⟩
theorem Ao:dX X (.builtin "isinstance") (fun xs H Q=>∃x t p T U,xs=[x,.ref p]/\H p=ar (.tup [.ty T,.ty U])/\Er H x=ar t/\t∈["NoneType","bool","int","str","tuple","list","dict"]/\T∈["bool","int","str","tuple","list"]/\U∈["bool","int","str","tuple","list"]/\
  Q (.bl (iI t T||iI t U)) H):=by
 intro pins s σ H xs us Q I r h;obtain⟨x,t,p,T,U,rfl,k,Z,R,C,B,q⟩:=h;obtain⟨u,F,rfl,Y,P⟩:=vals2 r;cases (show F=er p from P);obtain⟨_,its,J,⟨cls,dd,data,j⟩,S,N,n,hd⟩:=(show bo X.prog X.w H s.heap p (.tup [.ty T,.ty U])from I.hok p _ k);simp only at N hd;subst N hd;obtain⟨L,A,rfl,G,v⟩:=vals2 J;cases (show L=t5 T from G);cases (show A=t5 U from v);have e:Ro X.K (.type t) [.type T,.type U]=ar (iI t T||iI t U):=by
  unfold Ro Ro Ro;rw[uk X.K t R T C,uk X.K t R U B];cases iI t T<;>cases iI t U<;>rfl
 have fin:∀O,EP X pins σ Q (.bool (iI t T||iI t U)) {s with toks:=O}:=fun O=>⟨.bl _,H,I.tok O,rfl,q⟩;have ty:=B2 (K:=X.K) Z;generalize hT:t5 t=tv at ty e;cases ty with
 |non=>cases (show u=hJ from Y);exact Na Po I.kIn p7 S e (fun z=>nomatch z) fin
 |bl y=>cases (show u=t4 y from Y);exact Na W.kitx_bool I.kIn p7 S e (fun z=>nomatch z) fin
 |int i=>obtain⟨t,q⟩:=(show ∃t,u=pe i t from Y);cases q;exact Na W.kitx_int I.kIn p7 S e (fun z=>nomatch z) fin
 |str y=>obtain⟨t,q⟩:=(show ∃t,u=LI y t from Y);cases q;exact Na W.kitx_str I.kIn p7 S e (fun z=>nomatch z) fin
 |flt y=>obtain⟨t,q⟩:=(show ∃t,u=Qa y t from Y);cases q;exact Na W.kitx_float I.kIn p7 S e (fun z=>nomatch z) fin
 | @lst a xs ea=>
  cases (show u=er a from Y);obtain⟨_,_,n,_,Z⟩:=(show bo X.prog X.w H s.heap a (.lst xs)from I.hok a _ ea);exact Na OE I.kIn ⟨_,Z,rfl⟩ S e (fun z=>nomatch z) fin
 | @frz a ob xs ea=>
  cases (show u=er a from Y);obtain⟨_,_,_,n,_,Z⟩:=(show bo X.prog X.w H s.heap a (.frz ob (.lst xs))from I.hok a _ ea);exact Na OE I.kIn ⟨_,Z,rfl⟩ S e (fun z=>nomatch z) fin
 | @tup a xs ea=>
  cases (show u=er a from Y);obtain⟨_,_,_,o,Z,R,_⟩:=(show bo X.prog X.w H s.heap a (.tup xs)from I.hok a _ ea);exact Na W.kitx_tuple I.kIn ⟨o,Z,R⟩ S e (fun z=>nomatch z) fin
 | @dK a kvs ea=>
  cases (show u=er a from Y);obtain⟨_,_,vs,_,o,es,ep,Z,R,_⟩:=(show bo X.prog X.w H s.heap a (.dK kvs)from I.hok a _ ea);exact Na OF I.kIn ⟨o,Z,R.1⟩ S e (fun z=>nomatch z) fin
 | @dT a kvs ea=>
  cases (show u=er a from Y);obtain⟨_,_,xs,_,o,es,ep,Z,R,_⟩:=(show bo X.prog X.w H s.heap a (.dT kvs)from I.hok a _ ea);exact Na OF I.kIn ⟨o,Z,R.1⟩ S e (fun z=>nomatch z) fin
 |ins=>cases hT
theorem Es{p q W Y:Pos}{x1}{T U:Str}{Ts Us:String}(k:X.mg "isinstance"=none)(C:X.mg T=none)(J:X.mg U=none)(y:SE X E e m)(u:lx T=ar (.type Ts):=by decide+kernel)(P:lx U=ar (.type Us):=by decide+kernel)
  (I:Ts∈["bool","int","str","tuple","list"]:=by decide) (O:Us∈["bool","int","str","tuple","list"]:=by decide) (w:Gl X "isinstance":=by rfl) (N:Gl X T:=by rfl) (K:Gl X U:=by rfl)
  (s:T≠"__name__":=by decide) (G:(T==("__debug__":Str))=false:=by decide) (L:U≠"__name__":=by decide) (B:(U==("__debug__":Str))=false:=by decide)
  (hs:d_ [e,.Tuple [.Name T q,.Name U W] x1 Y] X.env=[(c_,gg e X.env),(c_,gg (.Tuple [.Name T q,.Name U W] x1 Y) X.env)]:=by rfl) (Z:d_ [.Tuple [.Name T q,.Name U W] x1 Y] X.env=[(c_,gg (.Tuple [.Name T q,.Name U W] x1 Y) X.env)]:=by rfl):
  SE X E (.Call (.Name "isinstance" p) [e,.Tuple [.Name T q,.Name U W] x1 Y] [] pos) (fun ρ=>do let x<-m ρ;An (fun t=>iI t Ts||iI t Us) x):=by
 refine PE.imp (ki Ao w k (by decide+kernel) (fM y (fM (Bv (fM (pG N C u (v:=.ty Ts) rfl s G) (fM (pG K J P (v:=.ty Us) rfl L B) kh rfl) rfl)) kh Z) (by rw[hs,Z])) (by decide) (by decide) (by rw[hs,Z]) (by rw[Z];rfl)) fun σ H Q h=>?_
 obtain⟨ι,S,ρ,rep,re,c⟩:=h;refine⟨ι,S,ρ,rep,re,az (aq c) fun x R S1 A e1 rep1 F v r=>?_⟩;obtain⟨G,F⟩:=vH F;refine⟨by show 2<=sizeLine;decide,fun p z=>?_⟩
 have rep2:=gf (o:=.tup [.ty Ts,.ty Us]) rep1 z;have e2:Ext R A R (upd A p (.tup [.ty Ts,.ty Us])):=fi z;exact⟨v,B3 x,p,Ts,Us,rfl,aV,B4 rep2 (r.later rep1 e2) G,yN x,I,O,aj F e2 rep2 _ (.bl _)⟩
end
section
variable {X:Cx}{E:XD}{a b e c o tg:Expr}{m n l:TM}{pos p2:Pos}{es:List Expr}{ms:aQ->M (List D)}
theorem range_all{bs:List Bool}:(ed bs.length).all (fun i=>bs.getD i c_)=bs.all id:=by
 induction bs with
 |nil=>rfl
 |cons b bs ih=>
  rw[Ml,List.range_succ_eq_map,Ou,Nv];simp only[List.getD_cons_zero,Qy,id];congr 1
theorem Ap(J:X.calm=bc):dX X (.builtin "all") (fun xs H Q=>∃(p:dt) (bs:List Bool),xs=[.ref p]/\kg X.K H p (bs.map V.bl)/\Q (.bl (bs.all id)) H):=by
 intro pins s σ H xs us Q I r h;obtain⟨p,bs,rfl,C,q⟩:=h;obtain⟨u,rfl,F⟩:=vals1 r;cases (show u=er p from F);obtain⟨its,S,O,z⟩:=I.list C;have W:=O.isList;refine call_all_walk (Pn W ?_);have U:p<s.heap.objs.size:=by obtain⟨o,G,_⟩:=W;exact LZ G
 have hlen:=S.length;refine⟨s.heap.objs.size,_,_,_,_,_,fun i=>bs.getD i c_,rfl,Walks.list (A:=X.A.in1) (by show X.A.handled=none;exact I.ok.hd J) s.heap.objs.size p (L7 U) its.toArray,⟨⟨_,L3 _ rfl,rfl,rfl⟩,W.push _⟩,?_,fun h' y L=>?_⟩
 ·intro i v s' B E' P T;have Z:its[i]? =ar v:=by simpa using P
  have hi:i<its.length:=(LX.mp Z).1;have Y:i<bs.length:=by rw[LR]at hlen;omega
  have:(bs.map V.bl)[i]? =ar (.bl bs[i]):=by rw[Mi,LV Y];rfl
  obtain⟨u,R,N⟩:=S.get this;rw[Z]at R;cases R;cases (show v=t4 bs[i]from N);have:bs.getD i c_=bs[i]:=by simp[List.getD,Y]
  dsimp only at T;rw[this]at T;exact Nd T
 ·have e1:its.toArray.size=bs.length:=by rw[L6, <-hlen,LR]
  rw[e1,range_all];refine⟨.bl _,H,I.kept (fun b o e=>L b o ?_ (LQ _ e)),rfl,q⟩;have:b≠s.heap.objs.size:=L7 (LZ e);simpa using this
def boolsOf:List D->Option (List Bool)
 |[]=>ar []
 | .bl i::r=>(boolsOf r).map (i::·)
 |_=>none
theorem kA{K:dV}{ι:List dt}{H:Hp}:∀{ds:List D} {vs:List V} {ns:List Bool},RelDs K ι H ds vs->boolsOf ds=ar ns->vs=ns.map V.bl
 |[],vs,ns,h,e=>by cases e;rw[h.nil_inv];rfl
 | .bl i::ds,vs,ns,h,e=>by
  obtain⟨v,ws,rfl,Z,Y⟩:=h.cons_inv;cases q:boolsOf ds with
  |none=>simp[boolsOf,q]at e
  |some ks=>
   simp[boolsOf,q]at e;subst e;rw[Z.bl_inv,kA Y q];rfl
 | .non::_,_,_,_,e=>by cases e
 | .int _::_,_,_,_,e=>by cases e
 | .str _::_,_,_,_,e=>by cases e
 | .tup _::_,_,_,_,e=>by cases e
 | .lst _::_,_,_,_,e=>by cases e
 | .ro _::_,_,_,_,e=>by cases e
 | .fz _::_,_,_,_,e=>by cases e
 | .emp::_,_,_,_,e=>by cases e
def mR:List D->M D
 |[.lst k]=>do
  let xs<-getL k
  match boolsOf xs with
  |some bs=>a_ (.bl (bs.all id))
  |none=>M.fail
 |[.fz xs]=>match boolsOf xs with
  |some bs=>a_ (.bl (bs.all id))
  |none=>M.fail
 |_=>M.fail
theorem Aq:lF X.K E mR (fun xs H Q=>∃(p:dt) (bs:List Bool),xs=[.ref p]/\kg X.K H p (bs.map V.bl)/\Q (.bl (bs.all id)) H):=by
 intro ι S H ds vs Q rep r c;unfold mR at c;split at c
 ·next k=>
  obtain⟨v,ws,rfl,U,T⟩:=r.cons_inv;cases T.nil_inv;obtain⟨p,rfl,Y⟩:=U.lst_inv;obtain⟨es,us,_,R,W,Z⟩:=bC c rep Y;cases q:boolsOf es with
  |none=>rw[q]at Z;exact(ah Z).elim
  |some bs=>
   rw[q]at Z;refine⟨p,bs,rfl,.of ?_,aj Z .refl rep _ (.bl _)⟩;rw[<-kA W q];exact R
 ·next es=>
  obtain⟨v,ws,rfl,U,T⟩:=r.cons_inv;cases T.nil_inv;obtain⟨p,o,us,rfl,Y,W⟩:=U.fz_inv;cases q:boolsOf es with
  |none=>rw[q]at c;exact(ah c).elim
  |some bs=>
   rw[q]at c;refine⟨p,bs,rfl,.inl (.inr ⟨o,?_⟩),aj c .refl rep _ (.bl _)⟩;rw[<-kA W q];exact Y
 ·exact(ah c).elim
theorem l8(Z:X.calm=bc)(W:X.mg "all"=none)(U:SE X E e m)(Y:Gl X "all":=by rfl)(hs:d_ [e] X.env=[(c_,gg e X.env)]:=by rfl):SE X E (.Call (.Name "all" p) [e] [] pos) (fun ρ=>do let ds<-(do let x<-m ρ;let xs<-a_ [];a_ (x::xs));mR ds):=
 jx (Ap Z) Aq Y W (by decide+kernel) (af U ai hs) (by decide) (by decide) hs rfl
def dE:D->List D->M D
 | .lst k,[d]=>do let xs<-getL k;lA k (xs++[d])
 |_,_=>M.fail
def mS:D->List D->M D
 | .lst k,[.lst j]=>do let xs<-getL k;let ys<-getL j;lA k (xs++ys)
 | .lst k,[.fz ys]=>do let xs<-getL k;lA k (xs++ys)
 |_,_=>M.fail
def nO:D->List D->M D
 | .lst k,[.int i]=>do
  let xs<-getL k
  if 0<=i/\i<xs.length then
   match xs[i.toNat]? with
   |some y=>do let _<-lA k (xs.eraseIdx i.toNat);a_ y
   |none=>M.fail
  else M.fail
 |_,_=>M.fail
theorem B6{K:dV}{H:Hp}{p:dt}{xs:List V}(h:H p=ar (.lst xs)):KU K "list" (.ref p) H:=.inl ⟨rfl,xs,.of h⟩
def Iv:D->M Unit
 | .lst _=>a_ ()
 |_=>M.fail
theorem um{name:Str}{L:String}{f:D->List D->M D}{r:V->List V->Hp->VK->Prop}{Y:Pos}(R:Slot "list" name L)(P:typeOf (.builtin L)=a_ (.type "method_descriptor"))(s:J9 X L r)
  (t:Jm X.K E f r) (z:SE X E o m) (G:SA X E (e::es) ms)
  (W:n3 o name X.env (gg o X.env)=gg o X.env:=by rfl)
  (T:((pa pos (d_ (e::es) X.env)).all (fun x=> !x.1) && (backToKw pos (keywordEach [] X.env)).all (fun x=>x.1.isSome)
   && decide ((e::es).length+([]:List Rc).length+(if ([]:List Rc).isEmpty then 0 else 1)<30))=true:=by rfl)
  (U:(Y.endLine==pos.line)=true:=by rfl) (hs:d_ (e::es) X.env=(c_,gg e X.env)::d_ es X.env:=by rfl) (Z:(pa pos (d_ es X.env)).any (·.1)=false:=by rfl):
  SE X E (.Call (.Attribute o name Y) (e::es) [] pos) (fun ρ=>do let x<-m ρ;Iv x;let ds<-ms ρ;f x ds):=by
 refine PE.imp (FO PySem.F.plainAttrs_list R P s z G W T U hs Z) fun σ H Q h=>?_;obtain⟨ι,S,ρ,rep,re,c⟩:=h;refine⟨ι,S,ρ,rep,re,az (aq c) fun x O S1 q e1 rep1 J v I=>?_⟩;cases x with
 |lst k=>
  obtain⟨p,rfl,y⟩:=I.lst_inv;obtain⟨vs,w⟩:=rep1.isL (Mx y);have B:=aj (aq J) .refl rep1;exact⟨B6 w,O,S1,ρ,rep1,re.later rep e1,az (aq B) fun ds N S2 u e2 rep2 C vs A=>t N S2 u (.lst k) ds (.ref p) vs Q rep2 (I.later rep1 e2) A C⟩
 |_=>exact(ah (aq J)).elim
theorem xA:Jm X.K E dE yC:=by
 intro ι S H d ds v vs Q rep r rs c;unfold dE at c;split at c
 ·next k d=>
  obtain⟨p,rfl,Y⟩:=r.lst_inv;obtain⟨w,ws,rfl,P,O⟩:=rs.cons_inv;cases O.nil_inv;obtain⟨es,us,_,U,R,T⟩:=bC c rep Y;obtain⟨Z,W⟩:=jw T rep Y (R.append (.cons P .nil));rw[LW]at Z;exact⟨p,us,w,rfl,rfl,U,Mc (by simp at Z;omega) ia,W _ .non⟩
 ·exact(ah c).elim
def vI:V->List V->Hp->VK->Prop:=fun x vs H Q=>∃l b xs zs,x= .ref l/\vs=[.ref b]/\H l=ar (.lst xs)/\Rd H b (.lst zs)/\xs.length+zs.length<=sizeLine/\Q .non (upd H l (.lst (xs++zs)))
theorem xB:J9 X "list.extend" vI:=by
 intro pins s σ H x vs v us Q I L R h;obtain⟨l,b,xs,zs,rfl,rfl,U,N,G,q⟩:=h;cases L;obtain⟨u,rfl,P⟩:=R.one;cases P;obtain⟨z,its,n,r,K,e⟩:=I.lstM U;obtain⟨J,Z,T,O,S,e2⟩:=Inv.lstR I N;have W:its.toArray.size+Z.toArray.size<=sizeLine:=by rw[L6,L6];omega
 have Y:¬ (!its.toArray.isEmpty && u5 (its.toArray.size+Z.toArray.size))=true:=by
  rw[BB W,Pi];exact Nj
 refine Qh F.slot_list_extend ⟨_,e,rfl⟩ F.entry_list_extend (F.args_list_extend_2 _ _)
  (AutoSeq1.list_extend_list_list_0 l its.toArray n b Z.toArray T Y (by rw[L6];omega) (by omega)) ⟨e,e2,?_⟩
 refine⟨.non,_,I.lset (its':=its++Z) U e (by simp) (r.append O) ?_,rfl,q⟩
 rw[LW];omega
theorem xC:Jm X.K E mS vI:=by
 intro ι S H d ds v vs Q rep r rs c;unfold mS at c;split at c
 ·next k j=>
  obtain⟨p,rfl,Y⟩:=r.lst_inv;obtain⟨w,ws,rfl,N,L⟩:=rs.cons_inv;cases L.nil_inv;obtain⟨q,rfl,W⟩:=N.lst_inv;obtain⟨es,us,_,R,O,P⟩:=bC c rep Y;obtain⟨fs,ys,_,J,U,I⟩:=bC P rep W;obtain⟨Z,T⟩:=jw I rep Y (O.append U);rw[LW]at Z;exact⟨p,q,us,ys,rfl,rfl,R,.inl J,Ma Z ia,T _ .non⟩
 ·next k fs=>
  obtain⟨p,rfl,Y⟩:=r.lst_inv;obtain⟨w,ws,rfl,N,L⟩:=rs.cons_inv;cases L.nil_inv;obtain⟨q,o,ys,rfl,W,U⟩:=N.fz_inv;obtain⟨es,us,_,R,O,P⟩:=bC c rep Y;obtain⟨Z,T⟩:=jw P rep Y (O.append U);rw[LW]at Z;exact⟨p,q,us,ys,rfl,rfl,R,.inr ⟨o,W⟩,Ma Z ia,T _ .non⟩
 ·exact(ah c).elim
theorem Ar:Jm X.K E nO BC:=by
 intro ι S H d ds v vs Q rep r rs c;unfold nO at c;split at c
 ·next k i=>
  obtain⟨p,rfl,W⟩:=r.lst_inv;obtain⟨w,ws,rfl,I,G⟩:=rs.cons_inv;cases G.nil_inv;rw[I.int_inv];obtain⟨es,us,F,L,R,Z⟩:=bC c rep W;split at Z
  ·next hb=>
   cases q:es[i.toNat]? with
   |none=>rw[q]at Z;exact(ah Z).elim
   | some y=>
    rw[q]at Z;obtain⟨J,T,U⟩:=R.get' q;have hlen:=R.length;have N:Ext ι H ι (upd H p (.lst (us.eraseIdx i.toNat))):=ub (Mx W);have Y:=RelDs.eraseIdx i.toNat R;have O:=jw (aq Z) rep W Y;have P:us.length<=lim+1:=by
     have:=O.1;rw[List.length_eraseIdx]at this;split at this<;>omega
    refine⟨p,us,i,i.toNat,J,rfl,rfl,L,by omega,by unfold lim at P;omega,?_,T,?_⟩
    ·unfold QY;simp only[show ¬ i<0 by omega,if_false]
     first|(rw[if_pos (by omega)])|(rw[if_pos (by simp;omega)])|(simp;omega)
    ·exact aj O.2 .refl (uc rep W Y) _ (U.later rep N)
  ·exact(ah Z).elim
 ·exact(ah c).elim
theorem fY{Z:Pos}(T:SE X E o m)(U:SE X E e n)
  (Y:n3 o "append" X.env (gg o X.env)=gg o X.env:=by rfl)
  (W:(Z.endLine==pos.line)=true:=by rfl) (hs:d_ [e] X.env=[(c_,gg e X.env)]:=by rfl):
  SE X E (.Call (.Attribute o "append" Z) [e] [] pos) (fun ρ=>do let x<-m ρ;Iv x;let ds<-(do let y<-n ρ;let ys<-a_ [];a_ (y::ys));dE x ds):=
 um PySem.F.slot_list_append PySem.F.type_list_append sy xA T (af U ai hs) Y (by rw[hs];rfl) W hs rfl
theorem As{Z:Pos}(T:SE X E o m)(U:SE X E e n)
  (Y:n3 o "extend" X.env (gg o X.env)=gg o X.env:=by rfl)
  (W:(Z.endLine==pos.line)=true:=by rfl) (hs:d_ [e] X.env=[(c_,gg e X.env)]:=by rfl):
  SE X E (.Call (.Attribute o "extend" Z) [e] [] pos) (fun ρ=>do let x<-m ρ;Iv x;let ds<-(do let y<-n ρ;let ys<-a_ [];a_ (y::ys));mS x ds):=
 um PySem.F.slot_list_extend PySem.F.type_list_extend xB xC T (af U ai hs) Y (by rw[hs];rfl) W hs rfl
theorem B7{Z:Pos}(T:SE X E o m)(U:SE X E e n)
  (Y:n3 o "pop" X.env (gg o X.env)=gg o X.env:=by rfl)
  (W:(Z.endLine==pos.line)=true:=by rfl) (hs:d_ [e] X.env=[(c_,gg e X.env)]:=by rfl):
  SE X E (.Call (.Attribute o "pop" Z) [e] [] pos) (fun ρ=>do let x<-m ρ;Iv x;let ds<-(do let y<-n ρ;let ys<-a_ [];a_ (y::ys));nO x ds):=
 um PySem.F.slot_list_pop PySem.F.type_list_pop BD Ar T (af U ai hs) Y (by rw[hs];rfl) W hs rfl
theorem Au:K1 X.K E gY FN:=by
 intro ι S H J L G v1 v2 I Q rep P O U c;unfold gY at c;split at c
 ·next k j=>
  obtain⟨p,rfl,Y⟩:=P.lst_inv;obtain⟨es,us,_,R,W,Z⟩:=bC c rep Y;cases q:wZ es.length j with
  |none=>rw[q]at Z;exact(ah Z).elim
  |some at'=>
   rw[q]at Z;obtain⟨N,T⟩:=jw (aq Z) rep Y (RelDs.set U at' W);refine⟨p,us,j,at',rfl,O.int_inv,R,by rw[<-W.length];exact q,?_⟩
   exact aj T .refl (uc rep Y (RelDs.set U at' W))
 ·exact(ah c).elim
theorem pJ(N:SE X E o m)(hi:SE X E i n)(U:∀v,Qb (.Subscript o i pos) X.env v=(do
   let ov<-A' [v] (gg o X.env);let iv<-A' [v,ov] (gg i X.env)
   RG pos
   A' [v,ov,iv] (R3 ov iv v)
   release [v,ov,iv] []):=by intro _;rfl):SG X E (.Subscript o i pos) (fun d ρ=>do let x<-m ρ;let y<-n ρ;gY x y d;a_ ρ):=by
 refine PG.imp (Gx N hi set_list U) fun v σ H Q h=>?_;obtain⟨ι,S,ρ,d,rep,re,r,c⟩:=h;refine⟨ι,S,ρ,rep,re,az (aq c) fun x Z S1 I e1 rep1 K v1 J=>?_⟩;refine⟨Z,S1,ρ,rep1,re.later rep e1,az (aq K) fun y W S2 L e2 rep2 P v2 O=>?_⟩;have Y:=(re.later rep e1).later rep1 e2;refine Au (E:=E) W S2 L x y d v1 v2 v _ rep2 (J.later rep1 e2) O ((r.later rep e1).later rep1 e2) (az (aq P) fun _ T F G e3 rep3 R=>?_);exact aj R .refl rep3 σ (Y.later rep2 e3)
def bG(lo:Int)(n:Nat):List D:=(ed n).map fun i=>.int (lo+(i:Nat))
def l9:List D->M Iter
 |[.int j]=>if -(2 ^ 62)<=j/\j<2 ^ 62 then a_ ⟨bG 0 j.toNat,.none⟩else M.fail
 |_=>M.fail
def kZ:List D->M Iter
 |[.int i,.int j]=>if -(2 ^ 62)<=i/\i<2 ^ 62/\ -(2 ^ 62)<=j/\j<2 ^ 62 then a_ ⟨bG i (j - i).toNat,.none⟩else M.fail
 |_=>M.fail
theorem mT{K:dV}{lo:Int}{n:Nat}{ι:List dt}{H:Hp}:ku K ⟨bG lo n,.none⟩ (IS lo n) ι H:=by
 intro U T S2 e rep ok i;refine⟨fun d hd=>?_,fun h=>?_⟩
 ·have Z:((ed n)[i]?).map (fun i:Nat=>D.int (lo+(i:Nat)))=ar d:=by
   have:(bG lo n)[i]? =ar d:=hd;unfold bG at this;rw[Mi]at this;exact this
  have hi:i<n:=by
   by_cases h:i<n
   ·exact h
   ·rw[MX (by simp;omega)]at Z;cases Z
  rw[Oi hi]at Z;cases Z;exact⟨hi,fun x S Y=>by obtain⟨rfl,rfl⟩:=Y;exact⟨.refl,rep,.int _⟩⟩
 ·have h':(bG lo n).length<=i:=h;unfold bG at h';rw[LR,Ms]at h';exact h'
theorem fj(P:X.mg "range"=none)(Y:SE X E a m)(W:Gl X "range":=by rfl)(hs:d_ [a] X.env=[(c_,gg a X.env)]:=by rfl):
  SI X E tg (.Call (.Name "range" p) [a] [] pos) (fun ρ=>do let ds<-(do let x<-m ρ;let xs<-a_ [];a_ (x::xs));l9 ds):=by
 intro pins s σ H R I h;refine z5 W P (af Y ai hs) hs pins s σ H R I ?_;obtain⟨ι,S,ρ,rep,re,c⟩:=h;refine⟨ι,S,ρ,rep,re,az (aq c) fun ds U S1 O e1 rep1 Z vs r=>?_⟩;unfold l9 at Z;split at Z
 ·next j=>
  obtain⟨w,ws,rfl,T,Q⟩:=r.cons_inv;cases Q.nil_inv;split at Z
  ·next hb=>rw[T.int_inv];exact⟨j,rfl,hb.1,hb.2,aj Z .refl rep1 _ mT⟩
  ·exact(ah Z).elim
 ·exact(ah Z).elim
theorem nP(J:X.mg "range"=none)(T:SE X E a m)(W:SE X E b n)(Q:Gl X "range":=by rfl)(hs:d_ [a,b] X.env=[(c_,gg a X.env),(c_,gg b X.env)]:=by rfl)(Z:d_ [b] X.env=[(c_,gg b X.env)]:=by rfl):
  SI X E tg (.Call (.Name "range" p) [a,b] [] pos) (fun ρ=>do let ds<-(do let x<-m ρ;let xs<-(do let y<-n ρ;let ys<-a_ [];a_ (y::ys));a_ (x::xs));kZ ds):=by
 intro pins s σ H R I h;refine z6 Q J (af T (af W ai Z) (by rw[hs,Z])) hs Z pins s σ H R I ?_
 obtain⟨ι,S,ρ,rep,re,c⟩:=h;refine⟨ι,S,ρ,rep,re,az (aq c) fun ds O S1 F e1 rep1 Y vs r=>?_⟩;unfold kZ at Y;split at Y
 ·next i j=>
  obtain⟨w,ws,rfl,N,L⟩:=r.cons_inv;obtain⟨G,K,rfl,P,U⟩:=L.cons_inv;cases U.nil_inv;split at Y
  ·next W=>rw[N.int_inv,P.int_inv];exact⟨i,j,rfl,W,aj Y .refl rep1 _ mT⟩
  ·exact(ah Y).elim
 ·exact(ah Y).elim
def Jv:D->M Iter
 | .lst k=>do let xs<-getL k;a_ ⟨xs,.some k⟩
 | .tup ds=>a_ ⟨ds,.none⟩
 | .ro ds=>a_ ⟨ds,.none⟩
 | .fz ds=>a_ ⟨ds,.none⟩
 |_=>M.fail
theorem vJ{K:dV}{k:Nat}{a:dt}{xs:List D}{ι:List dt}{H:Hp}(R:ι[k]? =ar a):ku K ⟨xs,.some k⟩ (J7 K a) ι H:=by
 intro Q P S2 e rep ok i;obtain⟨vs,Y,T⟩:=rep.get k a xs (e.at R) ok;refine⟨fun d hd=>?_,fun h=>⟨vs,.of Y,by rw[<-T.length];exact h⟩⟩
 obtain⟨v,U,S⟩:=T.get' hd;refine⟨⟨vs,v,.of Y,U⟩,fun x O Z=>?_⟩;obtain⟨rfl,Z⟩:=Z;have:=Z vs (.of Y);rw[U]at this;cases this;exact⟨.refl,rep,S⟩
theorem xD{K:dV}{a:dt}{ds:List D}{vs:List V}{ι:List dt}{S:aF}{H:Hp}(Y:Rep K ι H S)(T:H a=ar (.tup vs))(r:RelDs K ι H ds vs):ku K ⟨ds,.none⟩ (KG K a) ι H:=by
 intro P N S2 e rep2 ok i;have Z:=(e.oth a _ T (Y.notIn T (by intro _ z;cases z)) (by intro _ z;cases z) (by intro _ z;cases z)).1
 have O:=r.laterN Y e;refine⟨fun d hd=>?_,fun h=>⟨vs,.of Z,by rw[<-r.length];exact h⟩⟩
 obtain⟨v,R,Q⟩:=O.get' hd;refine⟨⟨vs,v,.of Z,R⟩,fun x L U=>?_⟩;obtain⟨rfl,U⟩:=U;have:=U vs (.of Z);rw[R]at this;cases this;exact⟨.refl,rep2,Q⟩
theorem sG{K:dV}{a:dt}{ds:List D}{vs:List V}{ι:List dt}{S:aF}{H:Hp}(Z:Rep K ι H S)(P:DR K H a vs)(r:RelDs K ι H ds vs):ku K ⟨ds,.none⟩ (J7 K a) ι H:=by
 intro O R S2 e rep2 ok i;have Y:DR K R a vs:=P.imp (fun⟨o,h⟩=>⟨o,(e.oth a _ h (Z.notIn h (by intro _ z;cases z)) (by intro _ z;cases z) (by intro _ z;cases z)).1⟩) fun z=>z
 have N:=r.laterN Z e;have sq:kg K R a vs:=Y.sq;refine⟨fun d hd=>?_,fun h=>⟨vs,sq,by rw[<-r.length];exact h⟩⟩
 obtain⟨v,T,Q⟩:=N.get' hd;refine⟨⟨vs,v,sq,T⟩,fun x L U=>?_⟩;obtain⟨rfl,U⟩:=U;have:=U vs sq;rw[T]at this;cases this;exact⟨.refl,rep2,Q⟩
theorem jL(Q:SE X E e m):SI X E tg e (fun ρ=>do let x<-m ρ;Jv x):=by
 intro pins s σ H R I h;obtain⟨ι,S,ρ,rep,re,c⟩:=h;obtain⟨r,P,T,k⟩:=id (aq c);cases r with
 |ex x=>
  refine mz Q pins s σ H R I ⟨ι,S,ρ,rep,re,.ex x,P,T,k⟩
 | ok d=>
  cases d with
  |tup ds=>
   refine GD Q pins s σ H R I ⟨ι,S,ρ,rep,re,.ok (.tup ds),P,T,fun Z W e1 rep1 v U=>?_⟩;obtain⟨p,vs,rfl,Y,O⟩:=U.tup_inv;exact⟨p,rfl,⟨vs,.of Y⟩,aj (k Z W e1 rep1) .refl rep1 _ (xD rep1 Y O)⟩
  |lst j=>
   refine mz Q pins s σ H R I ⟨ι,S,ρ,rep,re,.ok (.lst j),P,T,fun Z W e1 rep1 v U=>?_⟩;obtain⟨p,rfl,Y⟩:=U.lst_inv;obtain⟨es,us,_,N,K,L⟩:=bC (k Z W e1 rep1) rep1 Y;exact⟨p,rfl,⟨us,.of N⟩,aj L .refl rep1 _ (vJ Y)⟩
  |ro ds=>
   refine mz Q pins s σ H R I ⟨ι,S,ρ,rep,re,.ok (.ro ds),P,T,fun Z W e1 rep1 v U=>?_⟩;obtain⟨p,vs,rfl,Y,O⟩:=U.ro_inv;exact⟨p,rfl,⟨vs,Y.sq⟩,aj (k Z W e1 rep1) .refl rep1 _ (sG rep1 Y O)⟩
  |fz ds=>
   refine mz Q pins s σ H R I ⟨ι,S,ρ,rep,re,.ok (.fz ds),P,T,fun Z W e1 rep1 v U=>?_⟩;obtain⟨p,o,vs,rfl,Y,O⟩:=U.fz_inv;exact⟨p,rfl,⟨vs,.inl (.inr ⟨o,Y⟩)⟩,aj (k Z W e1 rep1) .refl rep1 _ (sG rep1 (.inl ⟨o,Y⟩) O)⟩
  |_=>exact mz Q pins s σ H R I ⟨ι,S,ρ,rep,re,.ok _,P,T,fun Z W e1 rep1 v U=>(ah (k Z W e1 rep1)).elim⟩
theorem vK:dX X (.type "range") (fun xs H Q=>∃j,xs=[.int j]/\∀p,H p=none->Q (.ref p) (upd H p (.rng 0 j))):=by
 intro pins s σ H xs us Q I r h;obtain⟨j,rfl,q⟩:=h;obtain⟨u,rfl,Z⟩:=vals1 r;obtain⟨t,rfl⟩:=(show ∃t,u=pe j t from Z);refine call_range_1 ⟨.ref s.heap.objs.size,_,I.laid (o:=.rng 0 j) (fun b o e=>LQ _ e) (LU _) ⟨_,_,_,L3 _ rfl⟩,rfl,q _ (I.hok.fresh (LU _))⟩
theorem rS(P:X.calm=bc):dX X (.type "list") (fun xs H Q=>∃(p:dt) (j:Int),xs=[.ref p]/\H p=ar (.rng 0 j)/\ -(2 ^ 62)<=j/\j<=lim/\∀l,H l=none->Q (.ref l) (upd H l (.lst ((ed j.toNat).map fun i:Nat=>V.int (i:Nat))))):=by
 intro pins s σ H xs us Q I r h;obtain⟨p,j,rfl,G,N,T,q⟩:=h;obtain⟨u,rfl,K⟩:=vals1 r;cases (show u=er p from K);obtain⟨t,u,v,J⟩:=(show bo X.prog X.w H s.heap p (.rng 0 j)from I.hok p _ G);have U:Builtin.Range.rangeSize 0 j 1=(j.toNat:Int):=by rw[rangeSize_one];split<;>omega
 have Z:j.toNat<=lim:=by omega
 refine call_list_range (I.ok.hd P) J (small_one (by omega) (by omega) N (by unfold lim at T;omega)) U (by unfold lim at Z;omega) fun h' L acc S R O hit=>?_
 refine⟨.ref s.heap.objs.size,_,I.laid (t':=L) R (LU _) (o:=.lst ((ed j.toNat).map fun i:Nat=>V.int (i:Nat))) ?_,rfl,q _ (I.hok.fresh (LU _))⟩;refine⟨by rw[LR,Ms];exact Ma Z ia,acc.toList,S,?_,by simpa using O⟩
 obtain⟨hs,hi⟩:=hit;have gen:∀(l:List aC) (f:Nat->Int),(∀i v,l[i]? =ar v->∃t,v=pe (f i) t)->bh ((ed l.length).map fun i:Nat=>V.int (f i)) l:=by
  intro l
  induction l with
  |nil=>intro f _;exact .nil
  |cons x l ih=>
   intro f hf;rw[Ml,List.range_succ_eq_map,Mh,My];obtain⟨t,Y⟩:=hf 0 x rfl;refine .cons ⟨t,Y⟩ ?_;exact ih (fun i=>f (i+1)) fun i v W=>hf (i+1) v (by simpa using W)
 have:=gen acc.toList (fun i=>(i:Int)) fun i v W=>by
  obtain⟨t,Y⟩:=hi i v (by simpa using W)
  exact⟨t,by rw[Y];congr 1;omega⟩
 rw[NG,hs]at this;exact this
def dm:List D->M D
 |[.int j]=>if -(2 ^ 62)<=j/\j<=lim then bJ (bG 0 j.toNat)else M.fail
 |_=>M.fail
theorem qi{K:dV}{ι:List dt}{H:Hp}:∀(l:List Nat),RelDs K ι H (l.map fun i:Nat=>D.int (0+(i:Nat))) (l.map fun i:Nat=>V.int (i:Nat))
 |[]=>.nil
 |x::l=>.cons (by show RelD K ι H (D.int (0+(x:Int))) (V.int (x:Int));rw[ND];exact .int _) (qi l)
theorem mU(R:X.calm=bc)(I:X.mg "list"=none)(W:X.mg "range"=none)(P:SE X E a m)(O:Gl X "list":=by rfl)(U:Gl X "range":=by rfl)(hs:d_ [a] X.env=[(c_,gg a X.env)]:=by rfl)
  (Y:d_ [.Call (.Name "range" q) [a] [] pos2] X.env=[(c_,gg (.Call (.Name "range" q) [a] [] pos2) X.env)]:=by rfl):
  SE X E (.Call (.Name "list" p) [.Call (.Name "range" q) [a] [] pos2] [] pos) (fun ρ=>do let ds<-(do let x<-m ρ;let xs<-a_ [];a_ (x::xs));dm ds):=by
 refine PE.imp (kS (rS R) O I (by decide+kernel) (fM (kS vK U W (by decide+kernel) (af P ai hs) (by decide) (by decide) hs rfl) kh Y) (by decide) (by decide) Y rfl) fun σ H Q h=>?_
 obtain⟨ι,S,ρ,rep,re,c⟩:=h;refine⟨ι,S,ρ,rep,re,az (aq c) fun ds L S1 G e1 rep1 Z vs r=>?_⟩;unfold dm at Z;split at Z
 ·next j=>
  obtain⟨w,ws,rfl,K,J⟩:=r.cons_inv;cases J.nil_inv;split at Z
  ·next hb=>
   rw[K.int_inv];refine⟨j,rfl,fun p T=>?_⟩;have rep2:=gf (o:=.rng 0 j) rep1 T;refine⟨p,j,rfl,aV,hb.1,hb.2,?_⟩;have N:=iG Z (fi (o:=.rng 0 j) T);exact(bD N rep2 (qi (ed j.toNat))).2
  ·exact(ah Z).elim
 ·exact(ah Z).elim
end
section
variable {X:Cx}{E:XD}{a b c d e:Expr}{m n l k:TM}{pos p2:Pos}
theorem B8:SE X E (.Dict [] [] pos) (fun _=>a_ .emp):=by
 intro pins s σ H Q I h;obtain⟨ι,S,ρ,rep,re,Y⟩:=h;have big:Rf<s.heap.objs.size:=OP (by decide) (I.mod.glob.keeps I.bk).lt
 have hf:H s.heap.objs.size=none:=I.hok.fresh (LU _);have Z:bo X.prog X.w (upd H s.heap.objs.size (.dK [])) (s.heap.push {cls:=.type "dict",data:=.dict #[]}) s.heap.objs.size (.dK []):=⟨Mg _,beq_eq_false_iff_ne.mpr (kr (L7 big)),[],.nil,Heap.DictOf.new s.heap⟩;refine wpAny_Dict_empty ⟨.ref s.heap.objs.size,upd H s.heap.objs.size (.dK []),I.laid (t':=s.toks) (fun _ _ q=>LQ _ q) (LU _) Z,rfl,?_⟩;exact aj Y (fi hf) (gf rep hf) _ (.emp aV)
end
theorem xE(n:Nat):j' ((n:Int) - 1) (-1) (-1)=n:=by
 unfold j';rw[if_neg (by omega)]
 by_cases h:((n:Int) - 1)> -1
 ·rw[if_pos h];have:((n:Int) - 1 - -1 - 1) / (- -1)+1=n:=by
   rw[show(- -1:Int)=1 by omega,Int.ediv_one];omega
  rw[this];omega
 ·rw[if_neg h];omega
theorem B9(xs:Array aC):((ed xs.size).filterMap fun(k:Nat)=>xs[(((xs.size:Int) - 1)+(k:Int)*(-1)).toNat]?)=xs.toList.reverse:=by
 have W:∀k∈ed xs.size,xs[(((xs.size:Int) - 1)+(k:Int)*(-1)).toNat]? =xs.toList.reverse[k]? :=fun k Z=>by
  have Y:k<xs.size:=L9.mp Z;rw[List.getElem?_reverse (by simpa using Y),Mq]
  congr 1;simp;omega
 have X:∀l:List Nat,(∀k∈l,xs[(((xs.size:Int) - 1)+(k:Int)*(-1)).toNat]? =xs.toList.reverse[k]?)->(l.filterMap fun(k:Nat)=>xs[(((xs.size:Int) - 1)+(k:Int)*(-1)).toNat]?)=l.filterMap fun k=>xs.toList.reverse[k]? :=by
  intro l
  induction l with
  |nil=>intro _;rfl
  |cons k l ih=>
   intro Z;rw[MG,MG,Z k Md,ih fun U h'=>Z U (L5 _ h')]
 rw[X _ W];have:=Oa xs.toList.reverse;simpa using this
section
variable {X:Cx}{E:XD}{e:Expr}{m:TM}{te:TE}{pos p1 p2 p3:Pos}{j:Nat}
theorem G9(L:PE X e te):PE X (.Subscript e (.Slice none none (ar (.UnaryOp .USub (.Constant (.int 1) j p1) p3)) p2) pos)
  (fun σ H Q=>te σ H fun x U=>∃a xs,x= .ref a/\lD X.K U a xs/\∀p,U p=none->Q (.ref p) (upd U p (.tup xs.reverse))):=by
 intro pins s σ H Q I h;refine Rm (eR (L pins s σ H _ I h) fun v s1 ⟨x,U,I1,r1,a,xs,ex,hx,q⟩=>?_);subst ex;cases r1;refine wpAny_Slice ?_;rw[QC];refine LS (LS (eR (yA (FK Bq (w5 (X:=X) (i:=1) (j:=j) (pos:=p1))) pins s1 σ U (fun o P=>o=ar (-1)/\P=U) I1 ⟨1,rfl, -1,rfl,rfl,rfl⟩) fun vs s2 ⟨o,P,I2,pt,eo,eH⟩=>?_));subst eo eH;have S:Inv X pins σ P {s2 with heap:=s2.heap.push {cls:=.type "slice",data:=.fields #[.none,.none,vs]}}:=I2.kept (t':=s2.toks) fun b N q=>LQ _ q;generalize hs3:({s2 with heap:=s2.heap.push {cls:=.type "slice",data:=.fields #[.none,.none,vs]}}:b_)=s3 at S;have W:s3.heap.get? s2.heap.objs.size=ar {cls:=.type "slice",data:=.fields #[.none,.none,vs]}:=by rw[<-hs3];exact L3 _ rfl
 obtain⟨its,r,T,O⟩:=S.tuple hx;have hlen:its.toArray.size=xs.length:=by rw[L6];exact r.length.symm
 have R:s3.TypeIs (.ref s2.heap.objs.size) "slice":=⟨_,W,rfl⟩;have fin:EP X pins σ Q (.ref s3.heap.objs.size) {s3 with heap:=s3.heap.push {cls:=.type "tuple",data:=.seq its.reverse.toArray}}:=
  ⟨.ref s3.heap.objs.size,_,S.laid (t':=s3.toks) (o:=.tup xs.reverse) (fun b N q=>LQ _ q) (LU _) ⟨pR (by rw[O4];exact O),_,r.reverse,Qq _ _⟩,rfl,q _ (S.hok.fresh (LU _))⟩
 refine RM (ops:=[.ref a,.ref s2.heap.objs.size]) T.typeIs PyProof.Rows.slot_tuple_getitem.lookup ?_ (by with_unfolding_all rfl)
 unfold Qv
 try with_reducible refine ME ?_
 first|refine LP (LS ?_)|skip
 refine LP (Pr T.typeIs (by decide) ?_)
 refine LP (wpAny_callSpecial?_slot (name:=hO "__getitem__") T.typeIs MP
  (ML MP T.typeIs O3 ?_ (Pe _ _)))
 show eb _ _ (t8 (.ref a)>>=_) _ _ s3;refine LP (QB T (LP (NY R ?_)));rw[if_pos (by decide)]
 unfold t7 Builtin.Slice.sliceFields;refine LP (LP (LP (MN W rfl (x:=.none) rfl (LP (MN W rfl (x:=.none) rfl (LP (MN W rfl (x:=vs) rfl (LS ?_))))))));refine LP (HT.slicePart_ pt ?_);show eb _ _ (if ((-1:Int)==0)=bc then _ else _) _ _ s3;rw[if_neg (by decide)]
 refine LP (HT.slicePart_ .none (LP (HT.slicePart_ .none (LP (LS ?_)))));show eb _ _ (a_ (((its.toArray.size:Int) - 1),(-1:Int),j' ((its.toArray.size:Int) - 1) (-1) (-1))) _ _ s3;rw[xE];refine LS ?_;show eb _ _ (if (((its.toArray.size:Int) - 1)==0 && (-1:Int)==1 && its.toArray.size==its.toArray.size)=bc then _ else _) _ _ s3;rw[if_neg (by simp)]
 rw[B9];have Y:sizeOk (.seq its.toArray.toList.reverse.toArray):=by
  show its.toArray.toList.reverse.toArray.size<=sizeLine;simp only[m2,List.length_reverse,u3];rw[<-r.length];exact O
 have Z:EP X pins σ Q (.ref s3.heap.objs.size) {s3 with heap:=s3.heap.push {cls:=.type "tuple",data:=.seq its.toArray.toList.reverse.toArray}}:=by simpa using fin
 first
  |exact LP (m:=i_ _) (Mw (LS ⟨_,rfl,LS Z⟩) Y)
  |exact LP (m:=i_ _) (Mw (LP (LS (LS ⟨_,rfl,LS Z⟩))) Y)
  |exact LP (LP (m:=i_ _) (Mw (LS (LS ⟨_,rfl,LS Z⟩)) Y))
  |exact LP (LP (m:=i_ _) (Mw (LS ⟨_,rfl,LS Z⟩) Y))
def Ha:D->M D
 | .tup xs=>bU xs.reverse
 |_=>M.fail
theorem Hb(U:SE X E e m):SE X E (.Subscript e (.Slice none none (ar (.UnaryOp .USub (.Constant (.int 1) j p1) p3)) p2) pos) (fun ρ=>do let x<-m ρ;Ha x):=by
 refine PE.imp (G9 U) fun σ H Q h=>?_;obtain⟨ι,S,ρ,rep,re,c⟩:=h;refine⟨ι,S,ρ,rep,re,az (aq c) fun x T S1 R e1 rep1 Z v r=>?_⟩;cases x with
 |tup ds=>
  obtain⟨p,vs,rfl,W,Y⟩:=r.tup_inv;exact⟨p,vs,rfl,.of W,(gH Z rep1 Y.reverse).2⟩
 |_=>exact(ah Z).elim
end
def insI(x:Int):List Int->List Int
 |[]=>[x]
 |y::r=>if x<=y then x::y::r else y::insI x r
def sortI:List Int->List Int
 |[]=>[]
 |x::r=>insI x (sortI r)
theorem insI_perm(x:Int):∀l,(insI x l).Perm (x::l)
 |[]=>.refl _
 |y::r=>by
  unfold insI;split
  ·exact .refl _
  ·exact(EW y (insI_perm x r)).trans (List.Perm.swap x y r)
theorem sortI_perm:∀l,(sortI l).Perm l
 |[]=>.refl _
 |x::r=>(insI_perm x _).trans (EW x (sortI_perm r))
theorem oE(x:Int):∀{l:List Int},l.Pairwise (· <=·)->(insI x l).Pairwise (· <=·)
 |[],_=>by simp[insI]
 | y::r,h=>by
  obtain⟨Y,X⟩:=MR.mp h;unfold insI;split
  ·next c=>
   refine MR.mpr ⟨fun z Z=>?_,h⟩;rcases Me.mp Z with rfl|Z
   ·exact c
   ·exact Int.le_trans c (Y z Z)
  ·next c=>
   refine MR.mpr ⟨fun z Z=>?_,oE x X⟩;rcases Me.mp ((insI_perm x r).mem_iff.mp Z)with rfl|Z
   ·omega
   ·exact Y z Z
theorem fq:∀l,(sortI l).Pairwise (· <=·)
 |[]=>.nil
 |x::r=>oE x (fq r)
section
variable {X:Cx}{E:XD}{e:Expr}{m:TM}{pos:Pos}
theorem uo:dX X (.builtin "sorted") (fun xs H Q=>∃(p:dt) (ns:List Int),xs=[.ref p]/\kg X.K H p (ns.map V.int)/\ns.length<64/\∀l,H l=none->Q (.ref l) (upd H l (.lst ((sortI ns).map V.int)))):=by
 intro pins s σ H xs us Q I r h;obtain⟨p,ns,rfl,N,P,q⟩:=h;obtain⟨u,rfl,O⟩:=vals1 r;cases (show u=er p from O);obtain⟨its,Y,R,L⟩:=I.list N;have T:oD its ns:=O1 Y;have hlen:=Y.length;rw[LR]at hlen;refine sorted_ints R.isList T (by omega) fun out Z a1 a2 S=>?_
 have en:Z=sortI ns:=W.lks_uniq (a2.trans (sortI_perm ns).symm) S (fq ns);subst en;obtain⟨c,U⟩:=sortedAll_at s.heap its out;have hf:H (s.heap.objs.size+1)=none:=I.hok.fresh (Oh _);refine⟨.ref (s.heap.objs.size+1),_,I.laid (t':=s.toks) (o:=.lst ((sortI ns).map V.int)) (fun b o e=>sortedAll_old e) (Oh _) ⟨?_,out.toList,c,ju a1,U⟩,rfl,q _ hf⟩;rw[LR,(sortI_perm ns).length_eq,MT];omega
theorem mW{K:dV}{ι:List dt}{H:Hp}:∀ns:List Int,RelDs K ι H (ns.map D.int) (ns.map V.int)
 |[]=>.nil
 |n::r=>.cons (.int n) (mW r)
end
end S3
namespace S3
open PySem PySem.Spec PySem.W PyProof.Rows L2
theorem qj{h:fg}:∀{vs:List aC},(∀v∈vs,∃a o us n i t,v= .ref a/\h.get? a=ar o/\o.cls= .type "tuple"/\o.data= .seq us n/\us[0]? =ar (pe i t))->
  ∃fs,KatTups h vs fs/\fs.length=vs.length/\∀f∈fs,∃i t,f=pe i t
 |[],_=>⟨[],.nil,rfl,fun _ z=>nomatch z⟩
 |v::vs,hv=>by
  obtain⟨a,o,us,n,i,t,rfl,e1,e2,e3,Y⟩:=hv v Md;obtain⟨fs,k1,k2,k3⟩:=qj fun Z h'=>hv Z (L5 _ h');refine⟨_::fs,.cons e1 e2 e3 Y k1,by simp[k2],fun f hf=>?_⟩
  rcases Me.mp hf with rfl|hf
  ·exact⟨i,t,rfl⟩
  ·exact k3 f hf
theorem k9:∀ns:List Int,HT.lexLt ns ns=c_
 |[]=>rfl
 |n::r=>by rw[HT.lexLt_cons,if_pos rfl];exact k9 r
theorem xF:∀{a b c:List Int},HT.lexLt a b=bc->HT.lexLt b c=bc->HT.lexLt a c=bc
 |[],[],c,h,_=>by cases h
 |[],_::_,[],_,h=>by cases h
 |[],_::_,_::_,_,_=>rfl
 |_::_,[],c,h,_=>by cases h
 |_::_,_::_,[],_,h=>by cases h
 | x::a,y::b,z::c,h1,h2=>by
  rw[HT.lexLt_cons]at h1 h2⊢;split at h1
  ·next e=>
   subst e;split at h2
   ·next e2=>subst e2;rw[if_pos rfl];exact xF h1 h2
   ·next e2=>rw[if_neg e2];exact h2
  ·next e=>
   have Z:x<y:=MQ h1;split at h2
   ·next e2=>subst e2;rw[if_neg e];exact h1
   ·next e2=>
    have Y:y<z:=MQ h2;rw[if_neg (by omega)];exact L8 (by omega)
theorem uq:∀{a b c:List Int},HT.lexLt a c=bc->HT.lexLt a b=bc\/HT.lexLt b c=bc
 |a,b,[],h=>by cases a<;>cases h
 |[],[],_::_,_=>.inr rfl
 |[],_::_,_::_,_=>.inl rfl
 |_::_,[],_::_,_=>.inr rfl
 | x ::a,y::b,z::c,h=>by
  rw[HT.lexLt_cons]at h;rw[HT.lexLt_cons,HT.lexLt_cons];split at h
  ·next e=>
   subst e;by_cases e2:x=y
   ·subst e2;rw[if_pos rfl,if_pos rfl];exact uq h
   ·rw[if_neg e2,if_neg (kr e2)];rcases Int.lt_or_gt_of_ne e2 with l|l
    ·exact .inl (L8 l)
    ·exact .inr (L8 l)
  ·next e=>
   have h':x<z:=MQ h;by_cases e2:x=y
   ·subst e2;rw[if_neg e];exact .inr (L8 h')
   ·rw[if_neg e2];by_cases l:x<y
    ·exact .inl (L8 l)
    ·refine .inr ?_;rw[if_neg (by omega)];exact L8 (by omega)
theorem Ca(x:bo P w H h a o):∃Z,h.get? a=ar Z:=by
 cases o with
 |lst xs=>obtain⟨_,_,_,_,e⟩:=x;exact⟨_,e⟩
 |tup xs=>obtain⟨_,_,_,Z,e,_⟩:=x;exact⟨_,e⟩
 |dK kvs=>obtain⟨_,_,_,_,o,_,_,e,_⟩:=x;exact⟨_,e⟩
 |dT kvs=>obtain⟨_,_,_,_,o,_,_,e,_⟩:=x;exact⟨_,e⟩
 |set S n=>obtain⟨o,_,_,_,e,_⟩:=x;exact⟨_,e⟩
 |ins C dx fs=>obtain⟨_,_,_,e,_⟩:=x;exact⟨_,e⟩
 |own y=>exact x
 |xd fs=>obtain⟨_,⟨_,_,_,e,_⟩,_⟩:=x;exact⟨_,e⟩
 |rng lo hi=>obtain⟨_,_,_,e⟩:=x;exact⟨_,e⟩
 |frz Z u=>exact⟨_,x.1⟩
 |tbl ps=>exact⟨_,show h.get? a=ar _ from x⟩
 |met f y=>exact⟨_,show h.get? a=ar _ from x⟩
 |ext φ=>exact x.2.1
section
variable {X:Cx}{pins:List (dt×Obj)}{σ:L2.St}{H:Hp}{s:b_}
theorem xG{us:List aC}(I:L2.Inv X pins σ H s)(P:Fr X.base X.env.locals s.heap m)(F:Fr X.base X.env.locals h2 m)
  (U:∀b o,b≠X.env.locals->s.heap.get? b=ar o->h2.get? b=ar o) (R:s.heap.get? d=none) (G:h2.get? d=ar {cls:=.type "list",data:=.seq us.toArray n}) (L:bh ys us) (C:ys.length<=sizeLine):
  L2.Inv X pins σ (upd H d (.lst ys)) {s with heap:=h2}:=by
 have Y:H d=none:=by
  cases e:H d with
  |none=>rfl
  |some o=>obtain⟨Q,q⟩:=Ca (I.hok d o e);rw[R]at q;cases q
 have W:∀b o,H b=ar o->b≠X.env.locals:=fun b o e z=>by rw[z,I.free]at e;cases e
 have old:∀b o,s.heap.get? b=ar o->b≠d:=fun b o e z=>by rw[z,R]at e;cases e
 refine I.step (g':=s.gens) (d':=s.drawn) (t':=s.toks) (ch:=[]) (fun _ z=>nomatch z) (fun b o Z _ _ e _=>U b o Z e) (fun b o Z _ _ e _=>⟨o.slots,U b o Z e⟩)
  (fun b o _ e n=>by rw[aI (old b o e)];exact n) (fun b o _ e=>?_) (fun b xs e=>by rw[aI (aR e Y)];exact e) (fun b Q u e=>by rw[aI (aR e Y)];exact e)
  (fun b y e=>⟨#[],by rw[aI (aR e Y),e];simp⟩) (fun B hm=>?_) (fun b u e=>?_) I.bare
 ·by_cases Z:b=X.env.locals
  ·obtain⟨E,_,_,N,_⟩:=F.ns;exact⟨E,by rw[Z];exact N⟩
  ·exact⟨o,U b o Z e⟩
 ·have:B=m:=by
   obtain⟨A,es,ep,e1,K,_,g1⟩:=hm;obtain⟨o2,O,J,e2,S,_,g2⟩:=P.ns;rw[e1]at e2;cases e2;rw[K]at S;cases S;funext x;rw[<-g1 x, <-g2 x]
  rw[this];exact F.ns
 ·by_cases Z:b=d
  ·subst Z;rw[aV]at e;cases e;exact⟨C,us,n,L,G⟩
  ·rw[aI Z]at e;refine(I.hok b u e).stay (fun c v T z=>U c v ?_ z) (fun c z=>by rw[aI (aR z Y)];exact z) fun c xs z=>by rw[aI (aR z Y)];exact z
   rcases T with rfl|T
   ·exact W _ _ e
   ·exact W _ _ T
end
section
variable {X:Cx}
end
end S3
namespace S4
open PySem PySem.SetTable
def tb(m:Nat):SetTable:=⟨m, #[], #[],0,bc,0,bc⟩
def cA(m:Nat)(h:Int):Nat->Probe
 |0=>(tb m).probeStart h
 |k+1=>(tb m).advance (cA m h k)
theorem Hd(t:mu)(h:Int)(k:Nat):t.advance (cA t.mask h k)=cA t.mask h (k+1):=rfl
theorem Av(t:mu)(p:Probe)(Z:p.dummy=none):(t.advance p).dummy=none:=by
 unfold RH;split
 ·exact Z
 ·exact Z
theorem qk(m:Nat)(h:Int):∀k,(cA m h k).dummy=none
 |0=>rfl
 |k+1=>Av _ _ (qk m h k)
def gT(m:Nat)(h:Int):Nat->Nat×Nat
 |0=>(RN h % (m+1),RN h)
 |n+1=>leap m (gT m h n).1 (gT m h n).2
def run(m i:Nat):Nat:=Rp m i - i
theorem He(m i:Nat):run m i<=9:=by
 unfold run Rp;split<;>omega
def rH(m:Nat)(h:Int):Nat->Nat
 |0=>0
 |n+1=>rH m h n+run m (gT m h n).1+1
theorem Cb(m:Nat)(h:Int):∀n,rH m h n<=10*n
 |0=>LU _
 |n+1=>by
  have:=Cb m h n;have:=He m (gT m h n).1;show rH m h n+run m (gT m h n).1+1<=10*(n+1);omega
theorem ur(m:Nat)(h:Int)(n:Nat)(e:cA m h (rH m h n)=⟨(gT m h n).1,run m (gT m h n).1,(gT m h n).1,(gT m h n).2,none⟩):
  ∀r,r<=run m (gT m h n).1->cA m h (rH m h n+r)=⟨(gT m h n).1+r,run m (gT m h n).1 - r,(gT m h n).1,(gT m h n).2,none⟩
 |0,_=>e
 |r+1,hr=>by
  have Z:=ur m h n e r (by omega)
  show(tb m).advance (cA m h (rH m h n+r))=_;rw[Z];unfold RH;simp only;rw[if_pos (by omega)]
  simp only[Probe.mk.injEq,and_true,true_and];omega
theorem qm(m:Nat)(h:Int):∀n,cA m h (rH m h n)=⟨(gT m h n).1,run m (gT m h n).1,(gT m h n).1,(gT m h n).2,none⟩
 |0=>rfl
 |n+1=>by
  have e:=ur m h n (qm m h n) _ (LU _);show(tb m).advance (cA m h (rH m h n+run m (gT m h n).1))=_;rw[e];unfold RH;simp only;rw[if_neg (by omega)]
  rfl
theorem uu(m:Nat)(h:Int)(n r:Nat)(Z:r<=run m (gT m h n).1):(cA m h (rH m h n+r)).j=(gT m h n).1+r:=by
 rw[ur m h n (qm m h n) r Z]
theorem yO(m:Nat)(h:Int):∀n,(gT m h n).2=RN h / 32 ^ n
 |0=>by simp[gT]
 |n+1=>by
  show(gT m h n).2 / 32=_;rw[yO m h n,Nat.div_div_eq_div_mul,Nat.pow_succ]
theorem Et(h:Int):RN h<2 ^ 64:=by
 unfold RN;have Y:0<=h % (2 ^ 64:Int):=Ov _ (by decide)
 have Z:h % (2 ^ 64:Int)<2 ^ 64:=NU _ (by decide)
 omega
theorem K4(m:Nat)(h:Int)(n:Nat):(gT m h (13+n)).2=0:=by
 rw[yO];refine Nat.div_eq_of_lt (Mc (Et h) ?_);have:(2:Nat) ^ 64<=32 ^ 13:=by decide
 exact Ma this (Nat.pow_le_pow_right (by decide) (by omega))
def Jw(m:Nat):Nat->Nat->Nat
 |0,a=>a
 |n+1,a=>(Jw m n a*5+1) % (m+1)
theorem xH(m:Nat)(h:Int):∀n,(gT m h (13+n)).1=Jw m n (gT m h 13).1
 |0=>rfl
 |n+1=>by
  show((gT m h (13+n)).1*5+1+(gT m h (13+n)).2 / 32) % (m+1)=(Jw m n (gT m h 13).1*5+1) % (m+1);rw[K4,xH m h n]
theorem Cc(m:Nat)(h:Int):∀n,(gT m h n).1<m+1
 |0=>Pw _ (by omega)
 |n+1=>Pw _ (by omega)
theorem K5:∀a,a<8->∀j,j<8->∃n,n<8/\Jw 7 n a=j:=by decide+kernel
theorem Jx:∀a,a<32->∀j,j<32->∃n,n<32/\Jw 31 n a=j:=by decide+kernel
def FT(m:Nat):Prop:=m=7\/m=31
theorem Cd(X:FT m)(h:Int)(j:Nat)(W:j<=m):∃n,n<m+14/\(gT m h n).1=j:=by
 rcases X with rfl|rfl
 ·obtain⟨n,Y,Z⟩:=K5 _ (Cc 7 h 13) j (by omega)
  exact⟨13+n,by omega,by rw[xH];exact Z⟩
 ·obtain⟨n,Y,Z⟩:=Jx _ (Cc 31 h 13) j (by omega)
  exact⟨13+n,by omega,by rw[xH];exact Z⟩
theorem cover(X:FT m)(h:Int)(j:Nat)(Z:j<=m):∃K,K<10*RO m/\(cA m h K).j=j:=by
 obtain⟨n,W,Y⟩:=Cd X h j Z;refine⟨rH m h n,?_,by rw[qm];exact Y⟩
 have:=Cb m h n;unfold RO;omega
theorem sH(h:i<m+1):i+run m i<=m:=by
 unfold run Rp;split<;>omega
theorem Hf{p:Probe}(h:p.j+p.more<=m):((tb m).advance p).j+((tb m).advance p).more<=m:=by
 unfold RH;split
 ·simp only;omega
 ·simp only[leap];exact sH (Pw _ (by omega))
theorem sI(m:Nat)(h:Int):∀k,(cA m h k).j+(cA m h k).more<=m
 |0=>sH (Pw _ (by omega))
 |k+1=>Hf (sI m h k)
theorem Eu(m:Nat)(h:Int)(k:Nat)(_:FT m):(cA m h k).j<=m:=Ma (NN _ _) (sI m h k)
def Ew(xs:Array Nat):Prop:=∀(i j a b:Nat),i<j->xs[i]? =ar a->xs[j]? =ar b->a<b
theorem qo(X:Ew xs):∀(fuel lo hi:Nat),lo<=hi->hi<=xs.size->hi - lo<=fuel->(∀(i a:Nat),i<lo->xs[i]? =ar a->a<j)->(∀(i a:Nat),hi<=i->xs[i]? =ar a->j<=a)->
  Rq xs j fuel lo hi<=xs.size/\(∀(i a:Nat),i<Rq xs j fuel lo hi->xs[i]? =ar a->a<j)/\(∀(i a:Nat),Rq xs j fuel lo hi<=i->xs[i]? =ar a->j<=a)
 |0,lo,hi,h1,h2,h3,h4,h5=>by
  have:lo=hi:=by omega
  subst this;exact⟨h2,h4,h5⟩
 | fuel+1,lo,hi,h1,h2,h3,h4,h5=>by
  unfold Rq;by_cases hlt:lo<hi
  ·rw[if_pos hlt];simp only;have Z:(lo+hi) / 2<xs.size:=by omega
   have U:xs.getD ((lo+hi) / 2) j=xs[(lo+hi) / 2]:=by simp[Rr,Z]
   have Y:xs[(lo+hi) / 2]? =ar xs[(lo+hi) / 2]:=L4 Z;rw[U];split
   ·next hc=>
    refine qo X fuel _ hi (by omega) h2 (by omega) (fun i a W e=>?_) h5
    by_cases he:i=(lo+hi) / 2
    ·subst he;rw[Y]at e;cases e;exact hc
    ·exact OP (X i _ a _ (by omega) e Y) hc
   ·next hc=>
    refine qo X fuel lo _ (by omega) (by omega) (by omega) h4 (fun i a W e=>?_)
    by_cases he:i=(lo+hi) / 2
    ·subst he;rw[Y]at e;cases e;omega
    ·have:=X _ i _ a (by omega) Y e
     omega
  ·rw[if_neg hlt];have:lo=hi:=by omega
   subst this;exact⟨h2,h4,h5⟩
theorem qp(Z:Ew xs)(j:Nat):u' xs j<=xs.size/\(∀(i a:Nat),i<u' xs j->xs[i]? =ar a->a<j)/\(∀(i a:Nat),u' xs j<=i->xs[i]? =ar a->j<=a):=
 qo Z xs.size 0 xs.size (Mg _) (LU _) (by omega) (fun _ _ h=>absurd h (P0 _)) fun i a hi e=>by
  rw[Nb hi]at e;cases e
theorem xI(Z:Ew xs)(h:xs[i]? =ar j):u' xs j=i:=by
 obtain⟨_,Y,W⟩:=qp Z j;rcases Px (u' xs j) i with l|l|l
 ·have X:u' xs j<xs.size:=OP l (Mm.mp h).1;have e:xs[u' xs j]? =ar xs[u' xs j]:=L4 X;have T:=Z _ _ _ _ l e h;have U:=W _ _ (LU _) e;omega
 ·exact l
 ·have:=Y i j l h;omega
theorem nQ{t:mu}(h:t.slot j= .live i):t.place[i]? =ar j:=by
 unfold slot at h;simp only at h;split at h
 ·next hc=>cases h;exact Qc hc
 ·split at h<;>cases h
theorem pK{t:mu}(Z:Ew t.place)(h:t.place[i]? =ar j):t.slot j= .live i:=by
 unfold slot;simp only;rw[xI Z h,h];simp
theorem yP{t:mu}(Z:t.dummies= #[])(j:Nat):(∃i,t.slot j= .live i)\/t.slot j= .empty:=by
 unfold slot;simp only;rw[Z];split
 ·exact .inl ⟨_,rfl⟩
 ·exact .inr (by simp[has])
theorem xJ{t:mu}(Z:Ew t.place)(h:t.slot j= .empty):∀(i:Nat),t.place[i]? ≠ar j:=fun i e=>by
 rw[pK Z e]at h;cases h
theorem yQ(Y:Ew xs)(h:∀(j:Nat),j<n->∃i:Nat,xs[i]? =ar j):∀(j:Nat),j<n->∃i:Nat,j<=i/\xs[i]? =ar j
 |0,hj=>by obtain⟨i,e⟩:=h 0 hj;exact⟨i,Mg _,e⟩
 |j+1,hj=>by
  obtain⟨i,W,Z⟩:=yQ Y h j (by omega)
  obtain⟨X,e⟩:=h (j+1) hj;refine⟨X,?_,e⟩;rcases Px i X with l|l|l
  ·omega
  ·subst l;rw[Z]at e;cases e
  ·have:=Y _ _ _ _ l e Z;omega
theorem Aw{t:mu}(W:Ew t.place)(X:t.dummies= #[])(hs:t.place.size<=t.mask):∃j,j<=t.mask/\t.slot j= .empty:=by
 apply Ob;intro Y;have:∀(j:Nat),j<t.mask+1->∃i:Nat,t.place[i]? =ar j:=fun j T=>by
  rcases yP X j with⟨i,e⟩|e
  ·exact⟨i,nQ e⟩
  ·exact absurd ⟨j,by omega,e⟩ Y
 obtain⟨i,U,Z⟩:=yQ W this t.mask (by omega)
 have:=(Mm.mp Z).1;omega
theorem yR{t:mu}(X:t.dummies= #[])(Y:Nat->Int)(h:Int)(K:Nat)(W:t.slot (cA t.mask h K).j= .empty):∀(fuel k:Nat),k<=K->K - k<fuel->
    ∃Z,k<=Z/\Z<=K/\(∀m,k<=m->m<Z->∃i,t.slot (cA t.mask h m).j= .live i/\Y i≠h)/\
      ((t.slot (cA t.mask h Z).j= .empty/\RP t Y h fuel (cA t.mask h k)=ar (.empty (cA t.mask h Z).j none))\/
       (∃i,t.slot (cA t.mask h Z).j= .live i/\Y i=h/\RP t Y h fuel (cA t.mask h k)=ar (.candidate (cA t.mask h Z).j i (cA t.mask h (Z+1)))))
  |0,k,h1,h2=>by omega
  | fuel+1,k,h1,h2=>by
    unfold RP;rcases yP X (cA t.mask h k).j with⟨i,e⟩|e
    · rw[e]
      simp only;by_cases hh:Y i=h
      · rw[if_pos (by simpa using hh)]
        exact⟨k,LU _,h1,fun m a b=>by omega,.inr ⟨i,e,hh,rfl⟩⟩
      · rw[if_neg (by simpa using hh)]
        have U:k≠K:=fun z=>by subst z;rw[W]at e;cases e
        obtain⟨Z,g1,g2,g3,T⟩:=yR X Y h K W fuel (k+1) (by omega) (by omega)
        refine⟨Z,by omega,g2,fun m a b=>?_,?_⟩
        · by_cases hm:m=k
          · subst hm;exact⟨i,e,hh⟩
          · exact g3 m (by omega) b
        · rw[Hd];exact T
    · rw[e]
      simp only[qk];exact⟨k,LU _,h1,fun m a b=>by omega,.inl ⟨e,rfl⟩⟩
abbrev Ent:=Int×aC
def At(pl:Array Nat)(es:Array Ent)(j:Nat)(e:Ent):Prop:=∃i:Nat,pl[i]? =ar j/\es[i]? =ar e
structure TPre(t:mu)(es:Array Ent):Prop where
 msk:FT t.mask
 dum:t.dummies= #[]
 siz:t.place.size=es.size
 ris:Ew t.place
 inb:∀(i a:Nat),t.place[i]? =ar a->a<=t.mask
 way:∀(j:Nat) (e:Ent),At t.place es j e->∃k,(cA t.mask e.1 k).j=j/\∀m,m<k->∃e',At t.place es (cA t.mask e.1 m).j e'
structure TOk(t:mu)(es:Array Ent):Prop extends TPre t es where
 few:es.size*5<t.mask*3
theorem TPre.fits(k:TPre t es)(h:es.size<=t.mask):t.fits es.size=true:=by
 unfold SetTable.fits fill;rw[k.siz,k.dum];simpa using h
theorem TOk.le(k:TOk t es):es.size<=t.mask:=by
 have:=k.few;omega
theorem TPre.at_of{t:mu}{es:Array Ent}(k:TPre t es){i j:Nat}(h:t.place[i]? =ar j):∃e,es[i]? =ar e/\At t.place es j e:=by
 have hi:i<es.size:=by rw[<-k.siz];exact(Mm.mp h).1
 exact⟨es[i],L4 hi,i,h,L4 hi⟩
theorem Ce(Z:Bool):TOk (E_ 0 0 Z) #[] where
 msk:=.inl rfl
 dum:=rfl
 siz:=rfl
 ris:=fun i j a b _ h _=>by simp[E_]at h
 inb:=fun i a h=>by simp[E_]at h
 way:=fun j e ⟨i,h,_⟩=>by simp[E_]at h
 few:=by show 0*5<7*3;decide
theorem fL{α:Type}(xs:Array α)(p:Nat)(x:α)(Y:p<=xs.size)(i:Nat):(eu xs p x)[i]? =if i<p then xs[i]? else if i=p then ar x else xs[i - 1]? :=by
 rw[<-Mq,SetTable.toList_insertAt];have Z:(xs.toList.take p).length=p:=by simp[Y]
 by_cases h1:i<p
 ·rw[if_pos h1,Mv (by omega),Pp h1,Mq]
 ·rw[if_neg h1,Nq (by omega),Z]
  by_cases h2:i=p
  ·subst h2;simp
  ·rw[if_neg h2];obtain⟨d,hd⟩:∃d,i - p=d+1:=⟨i - p - 1,by omega⟩
   rw[hd,List.getElem?_cons_succ,Pf,show p+d=i - 1 by omega,Mq]
theorem qr{α:Type}(xs:Array α)(p:Nat)(x:α):(eu xs p x).size=xs.size+1:=by
 have:=(SetTable.insertAt_perm xs p x).length_eq;simpa using this
theorem Cf{X:Array Nat}{es:Array Ent}(hs:X.size=es.size)(Y:p<=X.size)(W:Nat)(U:Ent):
  At (eu X p j) (eu es p e) W U↔At X es W U\/(W=j/\U=e):=by
 have Z:p<=es.size:=by rw[<-hs];exact Y
 constructor
 ·rintro⟨i,h1,h2⟩;rw[fL _ _ _ Y]at h1;rw[fL _ _ _ Z]at h2;by_cases c1:i<p
  ·rw[if_pos c1]at h1 h2;exact .inl ⟨i,h1,h2⟩
  ·rw[if_neg c1]at h1 h2;by_cases c2:i=p
   ·rw[if_pos c2]at h1 h2;cases h1;cases h2;exact .inr ⟨rfl,rfl⟩
   ·rw[if_neg c2]at h1 h2;exact .inl ⟨_,h1,h2⟩
 ·rintro(⟨i,h1,h2⟩|⟨rfl,rfl⟩)
  ·by_cases c1:i<p
   ·exact⟨i,by rw[fL _ _ _ Y,if_pos c1];exact h1,by rw[fL _ _ _ Z,if_pos c1];exact h2⟩
   ·exact⟨i+1,by rw[fL _ _ _ Y,if_neg (by omega),if_neg (by omega)];exact h1,by rw[fL _ _ _ Z,if_neg (by omega),if_neg (by omega)];exact h2⟩
  ·exact⟨p,by rw[fL _ _ _ Y,if_neg (by omega),if_pos rfl],by rw[fL _ _ _ Z,if_neg (by omega),if_pos rfl]⟩
theorem Hg{t:mu}(Z:t.dummies= #[])(j:Nat):t.put j=({t with place:=eu t.place (u' t.place j) j},u' t.place j):=by
 unfold put;simp only;rw[Z];have:has (#[]:Array Nat) j=false:=by simp[has]
 rw[this];cases t;simp only at Z;subst Z;rfl
theorem Hh(k:TPre t es){e:Ent}(L:j<=t.mask)(J:t.slot j= .empty)(G:(cA t.mask e.1 K).j=j)(I:∀m,m<K->∃S,At t.place es (cA t.mask e.1 m).j S):
  TPre (t.put j).1 (eu es (t.put j).2 e)/\(t.put j).1.mask=t.mask/\(t.put j).1.led=t.led/\(t.put j).1.plain=t.plain:=by
 obtain⟨X,H,N⟩:=qp k.ris j;have P:=xJ k.ris J;rw[Hg k.dum];refine⟨⟨k.msk,k.dum,?_,?_,?_,?_⟩,rfl,rfl,rfl⟩
 ·show(eu t.place (u' t.place j) j).size=_;rw[qr,qr,k.siz]
 ·intro Q R a b T U W;have Y:(eu t.place (u' t.place j) j)[Q]? =ar a:=U;have Z:(eu t.place (u' t.place j) j)[R]? =ar b:=W;rw[fL _ _ _ X]at Y Z;by_cases c1:Q<u' t.place j
  ·rw[if_pos c1]at Y;by_cases c2:R<u' t.place j
   ·rw[if_pos c2]at Z;exact k.ris _ _ _ _ T Y Z
   ·rw[if_neg c2]at Z;by_cases c3:R=u' t.place j
    ·rw[if_pos c3]at Z;cases Z;exact H _ _ c1 Y
    ·rw[if_neg c3]at Z;exact k.ris _ _ _ _ (by omega) Y Z
  ·rw[if_neg c1]at Y;rw[if_neg (by omega),if_neg (by omega)]at Z
   by_cases c3:Q=u' t.place j
   ·rw[if_pos c3]at Y;cases Y;have q:=N _ _ (by omega) Z
    have:b≠j:=fun z=>by subst z;exact P _ Z
    omega
   ·rw[if_neg c3]at Y;exact k.ris _ _ _ _ (by omega) Y Z
 ·intro i a h;have h':(eu t.place (u' t.place j) j)[i]? =ar a:=h;rw[fL _ _ _ X]at h';by_cases c1:i<u' t.place j
  ·rw[if_pos c1]at h';exact k.inb _ _ h'
  ·rw[if_neg c1]at h';by_cases c3:i=u' t.place j
   ·rw[if_pos c3]at h';cases h';exact L
   ·rw[if_neg c3]at h';exact k.inb _ _ h'
 ·intro O S h;have up:∀{a b},At t.place es a b->At (eu t.place (u' t.place j) j) (eu es (u' t.place j) e) a b:=fun z=>(Cf k.siz X _ _).mpr (.inl z);rcases (Cf k.siz X O S).mp h with h'|⟨rfl,rfl⟩
  ·obtain⟨n,U,W⟩:=k.way _ _ h';exact⟨n,U,fun m hm=>let ⟨x,hx⟩:=W m hm;⟨x,up hx⟩⟩
  ·exact⟨K,G,fun m hm=>let ⟨x,hx⟩:=I m hm;⟨x,up hx⟩⟩
abbrev Hi:=Array (Option Nat)
def Ax(o:Hi)(j:Nat):Prop:=∃k,o[j]? =ar (ar k)
structure Laid(m:Nat)(hs:List Int)(o:Hi):Prop where
 siz:o.size=m+1
 way:∀(j k:Nat),o[j]? =ar (ar k)->∃x,hs[k]? =ar x/\∃n,(cA m x n).j=j/\∀i,i<n->Ax o (cA m x i).j
theorem sJ{o:Hi}(R:o.size=m+1)(h:Int)(n':Nat)(O:o[(gT m h n').1]? =ar none):∀(fuel n:Nat),n<=n'->n' - n<fuel->
  ∃idx,rH m h n<=idx/\J_ m o fuel (gT m h n).1 (gT m h n).2=ar (cA m h idx).j/\o[(cA m h idx).j]? =ar none/\∀i,rH m h n<=i->i<idx->Ax o (cA m h i).j
 |0,n,h1,h2=>by omega
 | fuel+1,n,h1,h2=>by
  have T:Rp m (gT m h n).1+1 - (gT m h n).1=run m (gT m h n).1+1:=by
   unfold run Rp;split<;>omega
  have Q:(gT m h n).1+run m (gT m h n).1<=m:=by
   have:=Cc m h n;unfold run Rp;split<;>omega
  have get:∀k,k<=run m (gT m h n).1->o.getD ((gT m h n).1+k) (ar 0)=o[(gT m h n).1+k]?.getD (ar 0):=fun k _=>by simp
  have S:∀k,k<=run m (gT m h n).1->(o.getD ((gT m h n).1+k) (ar 0)).isNone=c_->Ax o (cA m h (rH m h n+k)).j:=fun k U P=>by
   rw[uu m h n k U];have Z:(gT m h n).1+k<o.size:=by omega
   rw[get k U,L4 Z]at P;cases e:o[(gT m h n).1+k]with
   |none=>simp[e]at P
   |some z=>exact⟨z,by rw[L4 Z,e]⟩
  unfold J_;rw[T];cases q:(ed (run m (gT m h n).1+1)).find? (fun k=>(o.getD ((gT m h n).1+k) (ar 0)).isNone)with
  | some k=>
   simp only;have U:=List.find?_some q;have X:k<=run m (gT m h n).1:=by
    have:=List.mem_of_find?_eq_some q;rw[L9]at this;omega
   refine⟨rH m h n+k,by omega,by rw[uu m h n k X],?_,fun i a b=>?_⟩
   ·rw[uu m h n k X];have Z:(gT m h n).1+k<o.size:=by omega
    rw[get k X,L4 Z]at U;rw[L4 Z];cases e:o[(gT m h n).1+k]with
    |none=>rfl
    |some z=>simp[e]at U
   ·obtain⟨d,rfl⟩:∃d,i=rH m h n+d:=⟨i - rH m h n,by omega⟩
    refine S d (by omega) ?_
    have Y:=List.find?_eq_some_iff_getElem.mp q;obtain⟨_,I,K,e1,e2⟩:=Y;simp at e1;subst e1;have:=e2 d (by omega)
    simpa using this
  | none=>
   simp only;have Y:=List.find?_eq_none.mp q;have W:∀k,k<=run m (gT m h n).1->Ax o (cA m h (rH m h n+k)).j:=fun k U=>S k U (by
    have:=Y k (L9.mpr (by omega))
    exact Pz.mpr this)
   have L:n≠n':=fun z=>by
    subst z;obtain⟨k,e⟩:=W 0 (Mg _);rw[uu m h n 0 (Mg _)]at e;rw[Nat.add_zero,O]at e;cases e
   obtain⟨idx,g1,g2,g3,N⟩:=sJ R h n' O fuel (n+1) (by omega) (by omega)
   have J:rH m h (n+1)=rH m h n+run m (gT m h n).1+1:=rfl;refine⟨idx,by omega,g2,g3,fun i a b=>?_⟩
   by_cases hi:rH m h (n+1)<=i
   ·exact N i hi b
   ·obtain⟨d,rfl⟩:∃d,i=rH m h n+d:=⟨i - rH m h n,by omega⟩
    exact W d (by omega)
def dN(m:Nat)(f:Nat->Option Nat):List (Nat×Nat):=(ed (m+1)).filterMap fun j=>(f j).map fun k=>(j,k)
theorem mX{α Y:Type}{f g:α->Option Y}:∀{l:List α},(∀x∈l,f x=g x)->l.filterMap f=l.filterMap g
 |[],_=>rfl
 |x::l,h=>by rw[MG,MG,h x Md,mX fun y Z=>h y (L5 _ Z)]
theorem Cg{f g:Nat->Option Nat}(U:j<m+1)(W:f j=none)(X:g j=ar k)(Y:∀i,i≠j->g i=f i):(dN m g).Perm ((j,k)::dN m f):=by
 unfold dN;have e:ed (m+1)=ed j++j::(o_ (j+1) (m - j)):=by
  rw[List.range_eq_range',List.range_eq_range',show m+1=j+(1+(m - j)) by omega, <-List.range'_append_1, <-List.range'_append_1]
  simp
 rw[e,List.filterMap_append,List.filterMap_append,MG,MG,W,X];simp only[z4,Option.map_none];rw[mX (l:=ed j) (g:=fun j=>(f j).map fun k=>(j,k)) fun x Z=>by rw[Y x (by rw[L9]at Z;omega)],
  mX (l:=o_ (j+1) (m - j)) (g:=fun j=>(f j).map fun k=>(j,k)) fun x Z=>by rw[Y x (by rw[N5]at Z;omega)]]
 exact List.perm_middle
def fo(o:Hi)(j:Nat):Option Nat:=o.getD j none
theorem qt:fo o j=ar k↔o[j]? =ar (ar k):=by
 unfold fo;rw[MD];cases o[j]? with
 |none=>simp
 |some z=>simp
structure LaidN(m:Nat)(hs:List Int)(o:Hi):Prop extends Laid m hs o where
 all:((dN m (fo o)).map (·.2)).Perm (ed hs.length)
theorem vL(L:LaidN m hs o):(dN m (fo o)).length=hs.length:=by
 have:=L.all.length_eq;simpa using this
theorem vM(L:LaidN m hs o)(S:hs.length<=m):∃j,j<=m/\o[j]? =ar none:=by
 apply Ob;intro U;have Y:∀j,j∈ed (m+1)->∃k,fo o j=ar k:=fun j X=>by
  rw[L9]at X;have Z:j<o.size:=by rw[L.siz];exact X
  cases e:o[j]with
  |none=>exact absurd ⟨j,by omega,by rw[L4 Z,e]⟩ U
  |some k=>exact⟨k,qt.mpr (by rw[L4 Z,e])⟩
 have:∀l:List Nat,(∀j∈l,∃k,fo o j=ar k)->(l.filterMap fun j=>(fo o j).map fun k=>(j,k)).length=l.length:=by
  intro l
  induction l with
  |nil=>intro _;rfl
  |cons x l ih=>
   intro h;obtain⟨k,e⟩:=h x Md;rw[MG,e];simp only[z4,q_];rw[ih fun j X=>h j (L5 _ X)]
 have T:=this _ Y;have W:=vL L;unfold dN at W;rw[T,Ms]at W;omega
theorem Ci(K:FT m)(L:LaidN m hs o)(Q:hs.length<=m)(x:Int):
  ∃j,J_ m o (RO m) (RN x % (m+1)) (RN x)=ar j/\LaidN m (hs++[x]) (o.setIfInBounds j (ar hs.length)):=by
 obtain⟨P,T,W⟩:=vM L Q;obtain⟨n',O,U⟩:=Cd K x P T;obtain⟨idx,_,g2,g3,I⟩:=sJ L.siz x n' (by rw[U];exact W) (RO m) 0 (Mg _) (by unfold RO;omega)
 refine⟨(cA m x idx).j,g2,?_⟩;generalize hj:(cA m x idx).j=j at g3⊢;have Z:j<o.size:=(Mm.mp g3).1;have self:(o.setIfInBounds j (ar hs.length))[j]? =ar (ar hs.length):=by simp[Z]
 have Y:∀i,i≠j->(o.setIfInBounds j (ar hs.length))[i]? =o[i]? :=fun i hi=>by
  rw[Array.getElem?_setIfInBounds_ne (kr hi)]
 have up:∀i,Ax o i->Ax (o.setIfInBounds j (ar hs.length)) i:=fun i ⟨k,e⟩=>by
  by_cases hi:i=j
  ·subst hi;exact⟨_,self⟩
  ·exact⟨k,by rw[Y i hi];exact e⟩
 refine⟨⟨by rw[Array.size_setIfInBounds];exact L.siz,fun i k e=>?_⟩,?_⟩
 ·by_cases hi:i=j
  ·subst hi;rw[self]at e;cases e;exact⟨x,by simp,idx,hj,fun q X=>up _ (I q (Mg _) X)⟩
  ·rw[Y i hi]at e;obtain⟨y,S,n,R,J⟩:=L.way i k e;refine⟨y,?_,n,R,fun q X=>up _ (J q X)⟩;rw[Mv (LX.mp S).1];exact S
 ·have N:=Cg (m:=m) (j:=j) (k:=hs.length) (f:=fo o) (g:=fo (o.setIfInBounds j (ar hs.length))) (by rw[<-L.siz];exact Z)
   (by unfold fo;rw[MD,g3];rfl) (qt.mpr self) (fun i hi=>by unfold fo;rw[MD,MD,Y i hi])
  refine(N.map (·.2)).trans ?_;rw[LW,OO,List.range_succ];exact(EW _ L.all).trans (List.perm_append_singleton _ _).symm
theorem yS(W:FT m):∀(rest hs:List Int) (o:Hi),LaidN m hs o->hs.length+rest.length<=m+1->
  ∃Y,rest.foldl (fun(acc:Option (Hi×Nat)) h=>do
   let (owner,k)<-acc;let j<-J_ m owner (RO m) (RN h % (m+1)) (RN h)
   a_ (owner.setIfInBounds j (ar k),k+1)) (ar (o,hs.length))=ar (Y,hs.length+rest.length)/\LaidN m (hs++rest) Y
 |[],hs,o,L,_=>⟨o,rfl,by rw[MI];exact L⟩
 |x::rest,hs,o,L,hl=>by
  rw[Ml]at hl;obtain⟨j,e,U⟩:=Ci W L (by omega) x
  obtain⟨Y,X,Z⟩:=yS W rest (hs++[x]) _ U (by simp;omega)
  refine⟨Y,?_,by rw[Mr]at Z;exact Z⟩
  rw[List.foldl_cons];simp only[Option.bind_eq_bind,J',e];rw[LW,OO]at X;simp only[Option.bind_eq_bind]at X;rw[Ml,show hs.length+(rest.length+1)=hs.length+1+rest.length by omega]
  exact X
theorem Ay(W:FT m)(Z:Array Int)(Y:Z.size<=m+1):∃o,layClean m Z=ar o/\LaidN m Z.toList o:=by
 have X:LaidN m [] (r_ (m+1) none):=by
  refine⟨⟨by simp,fun j k e=>?_⟩,?_⟩
  ·rw[PB]at e;split at e<;>cases e
  ·have:dN m (fo (r_ (m+1) none))=[]:=by
    unfold dN;rw[List.filterMap_eq_nil_iff];intro j _;have:fo (r_ (m+1) none) j=none:=by
     cases e:fo (r_ (m+1) none) j with
     |none=>rfl
     |some k=>
      rw[qt,PB]at e;split at e<;>cases e
    rw[this];rfl
   rw[this];exact .refl _
 obtain⟨o,e,L⟩:=yS W Z.toList [] _ X (by simpa using Y)
 refine⟨o,?_,by simpa using L⟩
 unfold layClean;rw[<-Array.foldl_toList];rw[show(r_ (m+1) (none:Option Nat),0)=(r_ (m+1) none,([]:List Int).length)from rfl];rw[e];rfl
theorem qu(f:Nat->Option Nat):∀l:List Nat,((l.filterMap fun j=>(f j).map fun k=>(j,k)).map (·.1)).Sublist l
 |[]=>.slnil
 |x::l=>by
  rw[MG];cases f x with
  |none=>exact .cons _ (qu f l)
  |some k=>exact .cons₂ _ (qu f l)
theorem qv{f:Nat->Option Nat}:(j,k)∈dN m f↔j<m+1/\f j=ar k:=by
 unfold dN;rw[Ni];constructor
 ·rintro⟨a,h1,h2⟩;cases e:f a with
  |none=>rw[e]at h2;cases h2
  |some b=>
   rw[e]at h2;cases h2;exact⟨L9.mp h1,e⟩
 ·rintro⟨h1,h2⟩;exact⟨j,L9.mpr h1,by rw[h2];rfl⟩
theorem Hj{l:List Nat}(h:l.Pairwise (· <·)):Ew l.toArray:=by
 intro i j a b Z X Y;rw[Nw]at X Y;obtain⟨hi,W⟩:=LX.mp X;obtain⟨T,U⟩:=LX.mp Y;have:=Pj.mp h i j hi T Z;rw[W,U]at this;exact this
theorem Cj{α Y:Type}{f:α->Option Y}:∀{l:List α},(∀x∈l,∃y,f x=ar y)->∀i:Nat,(l.filterMap f)[i]? =l[i]?.bind f
 |[],_,i=>by simp
 |x::l,h,i=>by
  obtain⟨y,e⟩:=h x Md;rw[MG,e];cases i with
  |zero=>simp[e]
  |succ i=>simpa using Cj (fun z Z=>h z (L5 _ Z)) i
theorem Ey{es:Array Ent}(G:FT m)(B:es.size*5<m*3)(K J:Nat)(N O:Bool):
  ∃(t':mu) (order:Array Nat),laid m K J N O (es.map (·.1))=ar (t',order)/\order.toList.Perm (ed es.size)/\(order.filterMap (es[·]?)).size=es.size/\TOk t' (order.filterMap (es[·]?))/\t'.led=N/\t'.plain=O/\t'.mask=m:=by
 obtain⟨o,e,L⟩:=Ay G (es.map (·.1)) (by rw[Array.size_map];omega)
 have hlen:(es.map (·.1)).toList.length=es.size:=by simp
 have Z:=L.all;rw[hlen]at Z;have I:∀p∈dN m (fo o),∃y,es[p.2]? =ar y:=fun p R=>by
  have:p.2∈ed es.size:=Z.mem_iff.mp (List.mem_map_of_mem R);rw[L9]at this;exact⟨es[p.2],L4 this⟩
 have T:(((dN m (fo o)).map (·.2)).toArray.filterMap (es[·]?)).toList=((dN m (fo o)).map (·.2)).filterMap (es[·]?):=by
  rw[Array.toList_filterMap]
 have W:(((dN m (fo o)).map (·.2)).toArray.filterMap (es[·]?)).toList.Perm es.toList:=by
  rw[T];exact(Z.filterMap _).trans (by rw[filterMap_getElem?_range])
 have U:(((dN m (fo o)).map (·.2)).toArray.filterMap (es[·]?)).size=es.size:=by
  have:=W.length_eq;simpa using this
 have S:∀(j:Nat) (x:Ent),At (((dN m (fo o)).map (·.1)).toArray) (((dN m (fo o)).map (·.2)).toArray.filterMap (es[·]?)) j x↔∃k,(j,k)∈dN m (fo o)/\es[k]? =ar x:=by
  intro j x;have key:∀i:Nat,(((dN m (fo o)).map (·.2)).toArray.filterMap (es[·]?))[i]? =((dN m (fo o))[i]?).bind fun p=>es[p.2]? :=fun i=>by
   rw[<-Mq,T,Cj (fun z A=>by
    obtain⟨p,R,rfl⟩:=Mp.mp A;exact I p R) i,Mi]
   cases (dN m (fo o))[i]? <;>rfl
  constructor
  ·rintro⟨i,Y,X⟩;rw[Nw,Mi]at Y;rw[key]at X;cases q:(dN m (fo o))[i]? with
   |none=>rw[q]at Y;cases Y
   |some p=>
    rw[q]at Y X;cases Y;exact⟨p.2,Mx q,X⟩
  ·rintro⟨k,Y,X⟩;obtain⟨i,hi⟩:=NZ.mp Y;exact⟨i,by rw[Nw,Mi,hi];rfl,by rw[key,hi];exact X⟩
 refine⟨⟨m,((dN m (fo o)).map (·.1)).toArray, #[],K,N,J,O⟩,((dN m (fo o)).map (·.2)).toArray,?_,by simpa using Z,U,⟨⟨G,rfl,?_,?_,?_,?_⟩,?_⟩,rfl,rfl,rfl⟩
 ·unfold laid;rw[e];rfl
 ·rw[U];show(((dN m (fo o)).map (·.1)).toArray).size=_;rw[L6,LR,vL L,hlen]
 ·exact Hj (List.Pairwise.sublist (qu _ _) List.pairwise_lt_range)
 ·intro i a h;have h':(((dN m (fo o)).map (·.1)).toArray)[i]? =ar a:=h;rw[Nw]at h';obtain⟨p,R,rfl⟩:=Mp.mp (Mx h');have:=(qv.mp R).1;show p.1<=m;omega
 ·intro j x E;obtain⟨k,Y,X⟩:=(S j x).mp E;obtain⟨t,C⟩:=qv.mp Y;obtain⟨y,g1,n,g2,g3⟩:=L.way j k (qt.mp C);have u:y=x.1:=by
   rw[Mq,Array.getElem?_map,X]at g1;cases g1;rfl
  subst u;refine⟨n,g2,fun i hi=>?_⟩;obtain⟨w,H⟩:=g3 i hi;have P:(cA m x.1 i).j<m+1:=by rw[<-L.siz];exact(Mm.mp H).1
  have Q:=qv.mpr ⟨P,qt.mpr H⟩;obtain⟨F,v⟩:=I _ Q;exact⟨F,(S _ _).mpr ⟨w,Q,v⟩⟩
 ·rw[U];exact B
theorem Az{t:mu}{es:Array Ent}(X:es.size=5):∃(t':mu) (order:Array Nat),t.relaid (es.map (·.1)) (SetTable.grown 5)=ar (t',order)/\order.toList.Perm (ed es.size)/\(order.filterMap (es[·]?)).size=es.size/\
  TOk t' (order.filterMap (es[·]?))/\t'.led=t.led/\t'.plain=t.plain:=by
 obtain⟨t',o,W,Y,Z,S,T,U,_⟩:=Ey (es:=es) (m:=31) (.inr rfl) (by rw[X];decide) t.finger (t.movedTo 31) t.led t.plain
 exact⟨t',o,W,Y,Z,S,T,U⟩
end S4
namespace S4
open PySem PySem.Spec PyProof.Rows
section
variable {prog:ee}{w:eM}{A:gd}{E:aC->b_->Prop}{s:b_}
theorem items_int(h:ItemsAre (n_ prog w) ks vs):∀v∈vs,∃n t,v=pe n t:=by
 induction h with
 |nil=>intro v Z;cases Z
 | cons h1 _ ih=>
  intro v Z;rcases Me.mp Z with rfl|Z
  ·obtain⟨t,e⟩:=Value.isInt_shape h1;exact⟨_,t,e⟩
  ·exact ih v Z
theorem AA{Q:Bool->b_->Prop}(Y:lz (n_ prog w) s.heap ks a)(h:Q bc s):eb (e_ prog w) A (Q6 8 (.ref a)) Q E s:=by
 have X:=Y.typeIs;obtain⟨o,items,n,W,_,hd,hi⟩:=Y;unfold Q6;refine LP (wpAny_specialOf X F.slot_tuple_hash.lookup ?_);show eb _ _ (RD (.ref a)>>=_) _ _ s;refine LP (Nh W hd ?_);refine LP ?_;show eb _ _ (RB items _ _) _ _ s;rw[<-Array.forIn_toList];refine Od _ (fun rest r s'=>r.1=none/\s'=s/\∀v∈rest,∃n t,v=pe n t) _ ?_ ?_ _ _ ⟨rfl,rfl,items_int hi⟩
 ·rintro v rest r s' ⟨hr,rfl,hall⟩;obtain⟨i,t,rfl⟩:=hall v Md;refine LP ?_;unfold Q6;refine LS ?_;simp only[p0,ey,if_false];exact LS ⟨rfl,rfl,fun u Z=>hall u (L5 _ Z)⟩
 ·rintro⟨r1,r2⟩ s' ⟨hr,rfl,_⟩;simp only at hr;subst hr;exact LS h
theorem oF{Q:Bool->b_->Prop}(Y:lz (n_ prog w) s.heap ks a)(h:Q c_ s):eb (e_ prog w) A (G_ 8 (.ref a)) Q E s:=by
 have X:=Y.typeIs;obtain⟨o,items,n,W,_,hd,hi⟩:=Y;unfold G_;refine LP (NY X ?_);simp only;rw[if_pos (by decide)]
 refine LP (LS ?_);simp only[p0,ey,if_false];refine LP (Nh W hd ?_);simp only;refine LP ?_;show eb _ _ (RB items _ _) _ _ s;rw[<-Array.forIn_toList];refine Od _ (fun rest r s'=>r.1=none/\s'=s/\∀v∈rest,∃n t,v=pe n t) _ ?_ ?_ _ _ ⟨rfl,rfl,items_int hi⟩
 ·rintro v rest r s' ⟨hr,rfl,hall⟩;obtain⟨i,t,rfl⟩:=hall v Md;refine LP ?_;unfold G_;refine LS ?_;simp only[ey,if_false];exact LS ⟨rfl,rfl,fun u Z=>hall u (L5 _ Z)⟩
 ·rintro⟨r1,r2⟩ s' ⟨hr,rfl,_⟩;simp only at hr;subst hr;exact LS h
theorem Hk(Y:lz (n_ prog w) s.heap kx ax)(U:∀y∈ys,∃k a,y= .ref a/\lz (n_ prog w) s.heap k a){Q:Bool->b_->Prop}(h:Q c_ s):
  eb (e_ prog w) A (searchCouldBeSeen (.ref ax) ys) Q E s:=by
 unfold searchCouldBeSeen;refine LP ?_;refine Od _ (fun rest r s'=>r.1=none/\s'=s/\∀v∈rest,∃k a,v= .ref a/\lz (n_ prog w) s.heap k a) _ ?_ ?_ _ _ ⟨rfl,rfl,U⟩
 ·rintro v rest r s' ⟨hr,rfl,hall⟩;obtain⟨k,a,rfl,X⟩:=hall v Md;have W:∀u∈rest,∃k a,u= .ref a/\lz (n_ prog w) s'.heap k a:=fun u Z=>hall u (L5 _ Z);simp only;split
  ·exact LS ⟨rfl,rfl,W⟩
  ·refine LP (wpAny_eqIsQuiet_tuple Y ?_);simp only[p0,ey,if_false];refine LP (wpAny_eqIsQuiet_tuple X ?_);simp only[p0,ey,if_false];refine LP (oF Y ?_);simp only[ey,if_false];refine LP (oF X ?_);simp only[ey,if_false];exact LS ⟨rfl,rfl,W⟩
 ·rintro⟨r1,r2⟩ s' ⟨hr,rfl,_⟩;simp only at hr;subst hr;exact LS h
abbrev KA:=List Int×dt
def iY(prog:ee)(w:eM)(k:List Int):Int:=tupleKeyHash (n_ prog w) k
def ent(prog:ee)(w:eM)(p:KA):Ent:=(iY prog w p.1,.ref p.2)
def xK(prog:ee)(w:eM)(h:fg)(L:List KA):Prop:=∀p∈L,lz (n_ prog w) h p.1 p.2
structure SetAt(prog:ee)(w:eM)(h:fg)(a:dt)(o:Obj)(es:Array Ent)(ep:Nat)(t:mu)(L:List KA):Prop where
 get:h.get? a=ar o
 ex:o.ExactSet
 dat:o.data= .set es ep t
 ok:TOk t es
 pln:t.plain=bc
 led:t.led= !(w.params.followText "set-order")
 ents:es.toList=L.map (ent prog w)
 nd:(L.map (·.1)).Nodup
theorem SetAt.fits(k:SetAt prog w h a o es ep t L):t.fits es.size=true:=k.ok.fits k.ok.le
theorem SetAt.ent_at(k:SetAt prog w h a o es ep t L)(i:Nat):es[i]? =(L[i]?).map (ent prog w):=by
 rw[<-Mq,k.ents,Mi]
theorem SetAt.len(k:SetAt prog w h a o es ep t L):es.size=L.length:=by
 rw[<-NG,k.ents,LR]
theorem Ck{t:mu}:t.sameMemory t.moves t.mask=ar true:=by
 unfold SetTable.sameMemory;simp
theorem sL{a b:dt}{o:Obj}{es:Array Ent}{ep:Nat}{t:mu}{L:List KA}{Z:List Int}(hu:A.units<u4)(k:SetAt prog w s.heap a o es ep t L)(f:xK prog w s.heap L)(r:lz (n_ prog w) s.heap Z b)
  {K:Nat} (C:t.slot (cA t.mask (iY prog w Z) K).j= .empty) (N:K<10*Fn t.mask) {Q:SetFound->b_->Prop}
  (W:Z∈L.map (·.1)->Q (.there none) s)
  (F:Z∉L.map (·.1)->∀n,t.slot (cA t.mask (iY prog w Z) n).j= .empty->(∀m,m<n->∃i,t.slot (cA t.mask (iY prog w Z) m).j= .live i)->Q (.free (cA t.mask (iY prog w Z) n).j c_) s):
  ∀(fuel n:Nat) (st:Option SetTable.Probe),st.getD (t.probeStart (iY prog w Z))=cA t.mask (iY prog w Z) n->n<=K->K - n<fuel->
   (∀m,m<n->∃i,t.slot (cA t.mask (iY prog w Z) m).j= .live i/\∀p,L[i]? =ar p->p.1≠Z)->eb (e_ prog w) A (setSearchFrom a (.ref b) (iY prog w Z) bc fuel st) Q E s
 |0,n,st,e,B,h2,h3=>by omega
 | fuel+1,n,st,e,B,h2,h3=>by
  have odd:t.gaveWay=false:=by
   unfold SetTable.gaveWay;rcases k.ok.msk with h|h<;>rw[h]<;>rfl
  unfold setSearchFrom;refine LP (Nf k.get k.dat k.fits ?_);simp only;rw[odd];simp only[ey,if_false];rw[e];obtain⟨n',g1,g2,g3,g4⟩:=yR k.ok.dum (fun i=>(es[i]?.map (·.1)).getD 0) (iY prog w Z) K C (10*Fn t.mask) n B (by omega)
  have stored:∀(i:Nat) (p:KA),L[i]? =ar p->(es[i]?.map (·.1)).getD 0=iY prog w p.1:=fun i p X=>by
   rw[k.ent_at,X];rfl
  have before:∀m,m<n'->∃i,t.slot (cA t.mask (iY prog w Z) m).j= .live i/\∀p,L[i]? =ar p->p.1≠Z:=fun m hm=>by
   by_cases hmn:m<n
   ·exact h3 m hmn
   ·obtain⟨i,S,v⟩:=g3 m (by omega) hm
    refine⟨i,S,fun p X z=>v ?_⟩;rw[stored i p X,z]
  rcases g4 with⟨c1,c2⟩|⟨i,c1,c2,c3⟩
  ·generalize hpr:t.probe _ (iY prog w Z) (cA t.mask (iY prog w Z) n)=pr;have ep:pr=ar (.empty (cA t.mask (iY prog w Z) n').j none):=hpr.symm.trans c2;subst ep;simp only;refine LS (F (fun H=>?_) n' c1 fun m hm=>let ⟨i,q,_⟩:=before m hm;⟨i,q⟩);obtain⟨p,X,rfl⟩:=Mp.mp H;obtain⟨G,I⟩:=NZ.mp X;have Y:es[G]? =ar (ent prog w p):=by rw[k.ent_at,I];rfl
   have T:G<t.place.size:=by rw[k.ok.siz];exact(Mm.mp Y).1
   have u:At t.place es t.place[G] (ent prog w p):=⟨G,L4 T,Y⟩;obtain⟨g,w1,w2⟩:=k.ok.way _ _ u;have P:(cA t.mask (iY prog w p.1) g).j=t.place[G]:=w1;rcases Nat.lt_or_ge g n' with l|l
   ·obtain⟨i,S,v⟩:=before g l;rw[P,pK k.ok.ris (L4 T)]at S;cases S;exact v p I rfl
   ·rcases Nat.eq_or_lt_of_le l with l|l
    ·subst l;rw[P,pK k.ok.ris (L4 T)]at c1;cases c1
    ·obtain⟨e',i',S,_⟩:=w2 n' l;have c:t.place[i']? =ar (cA t.mask (iY prog w p.1) n').j:=S;rw[pK k.ok.ris c]at c1;cases c1
  ·generalize hpr:t.probe _ (iY prog w Z) (cA t.mask (iY prog w Z) n)=pr;have ep:pr=ar (.candidate (cA t.mask (iY prog w Z) n').j i (cA t.mask (iY prog w Z) (n'+1))):=hpr.symm.trans c3;subst ep;simp only;have hi:i<es.size:=by rw[<-k.ok.siz];exact(Mm.mp (nQ c1)).1
   have U:i<L.length:=by rw[<-k.len];exact hi
   have X:L[i]? =ar L[i]:=LV U;have Y:es[i]? =ar (ent prog w L[i]):=by rw[k.ent_at,X];rfl
   have J:lz (n_ prog w) s.heap L[i].1 L[i].2:=f _ (M1 U);have d:∀y∈List.map (fun x:Ent=>x.snd) (Array.filter (fun x:Ent=>x.fst==iY prog w Z) es).toList,∃k a,y= .ref a/\lz (n_ prog w) s.heap k a:=fun y hy=>by
    obtain⟨e1,B,rfl⟩:=Mp.mp hy;have R:e1∈es.toList:=by
     have:=OT.mp B;exact OT.mpr (Array.mem_filter.mp this).1
    rw[k.ents]at R;obtain⟨p,X,rfl⟩:=Mp.mp R;exact⟨p.1,p.2,rfl,f p X⟩
   split
   case' isTrue=>
    refine LP (Hk r d ?_);simp only[ey,if_false]
   all_goals
    rw[Y];simp only[ent];refine LP (ME (wpAny_eqBool_tuple hu J r ?_));refine LP (Nf k.get k.dat k.fits ?_);by_cases hq:L[i].1=Z
    ·rw[L8 hq];simp only[QD,if_true];exact LS (W (Mp.mpr ⟨_,M1 U,hq⟩))
    ·rw[Mj hq];simp only[Py,ey,if_false];rw[Ck];simp only[if_true];rw[c1];simp only;rw[Y];simp only[ent];refine LP (wpAny_isSame_ref_self (LP (LS ?_)));simp only[if_true];refine sL hu k f r C N W F fuel (n'+1) _ rfl ?_ ?_ fun m hm=>?_
     ·have:n'≠K:=fun z=>by subst z;rw[C]at c1;cases c1
      omega
     ·have:n'≠K:=fun z=>by subst z;rw[C]at c1;cases c1
      omega
     ·by_cases hmn:m<n'
      ·exact before m hmn
      ·have:m=n':=by omega
       subst this;exact⟨i,c1,fun p O=>by rw[X]at O;cases O;exact hq⟩
end
def Jy(L:List KA)(p:KA)(L':List KA):Prop:=(p.1∈L.map (·.1)/\L'=L)\/(p.1∉L.map (·.1)/\L'.Perm (p::L))
section
variable {prog:ee}{w:eM}{A:gd}{E:aC->b_->Prop}{s:b_}
theorem yT{h:fg}(Y:h.get? a=ar o)(Z:o.data= .set es ep t):(h.update a (M' es' t')).get? a=ar {o with data:=.set es' (ep+1) t'}:=by
 have:=MS (M' es' t') Y (by rw[putSet_of es' t' Z];rfl)
 rw[putSet_of es' t' Z]at this;exact this
theorem Hl(hu:A.units<u4)(k:SetAt prog w s.heap a o es ep t L)(hL:xK prog w s.heap L)(hx:lz (n_ prog w) s.heap kx ax)
  (d:L.length<18) {Q:Bool->b_->Prop}
  (h:∀b h' o' es' ep' t' J,SetAt prog w h' a o' es' ep' t' J->r7 a s.heap h'->Jy L (kx,ax) J->Q b {s with heap:=h'}):
  eb (e_ prog w) A (setAddHashed a (.ref ax) (iY prog w kx)) Q E s:=by
 obtain⟨j0,f,x⟩:=Aw k.ok.ris k.ok.dum (by rw[k.ok.siz];exact k.ok.le)
 obtain⟨K,g,u⟩:=cover k.ok.msk (iY prog w kx) j0 f;have a3:10*Fn t.mask<=100000:=by
  unfold Fn;rcases k.ok.msk with z|z<;>rw[z]<;>decide
 unfold setAddHashed setAddHashedIn;refine ME (LP (Nf k.get k.dat k.fits ?_));have l:byScan (.ref ax) es=false:=by simp[byScan,Value.scannable]
 simp only[l,ey,if_false];unfold setSearch;refine LP ?_;refine sL hu k hL hx (by rw[u];exact x) g ?_ ?_ 100000 0 none rfl (Mg _) (by omega) (fun m hm=>by omega)
 ·intro Y;simp only;refine LS ?_;have e:s={s with heap:=s.heap}:=by cases s;rfl
  rw[e];exact h _ s.heap o es ep t L k (Heap.SameBut.refl a s.heap) (.inl ⟨Y,rfl⟩)
 ·intro Y n hn hb;simp only;refine LP (Nf k.get k.dat k.fits ?_);generalize hj:(cA t.mask (iY prog w kx) n).j=j at hn;have G:j<=t.mask:=by
   rw[<-hj];rcases Nat.eq_zero_or_pos n with z|z
   ·subst z;show SetTable.bits _ % (t.mask+1)<=t.mask;have:=Pw (SetTable.bits (iY prog w kx)) (show t.mask+1>0 by omega)
    omega
   ·exact Eu _ _ _ k.ok.msk
  obtain⟨T,B,y,F⟩:=Hh (e:=ent prog w (kx,ax)) (K:=n) k.ok.toTPre G hn hj fun m hm=>by
   obtain⟨i,q⟩:=hb m hm;obtain⟨e',_,q'⟩:=k.ok.toTPre.at_of (nQ q);exact⟨e',q'⟩
  generalize hP:t.put j=P at T B y F⊢;obtain⟨t1,pp⟩:=P;simp only at T B y F⊢;have T:TPre t1 (eu es pp (iY prog w kx,er ax)):=T;rw[if_pos (by rw[F];exact k.pln)]
  refine LP (AA hx ?_);simp only[if_true];have Z:(eu es pp (iY prog w kx,er ax)).size=es.size+1:=qr _ _ _;have hlen:=k.len;refine LP (wpAny_storeSet_of k.get k.dat ?_ (by rw[Z,MT];omega))
  have g1:=yT (es':=eu es pp (iY prog w kx,er ax)) (t':=t1) k.get k.dat;have I:=Ng s.heap a (M' (eu es pp (iY prog w kx,er ax)) t1);have X:(eu es pp (iY prog w kx,er ax)).toList=(L.take pp++(kx,ax)::L.drop pp).map (ent prog w):=by
   rw[SetTable.toList_insertAt,k.ents,MY,Mh,Qe,List.map_drop];rfl
  have W:(L.take pp++(kx,ax)::L.drop pp).Perm ((kx,ax)::L):=by
   have:=List.perm_middle (a:=(kx,ax)) (l₁:=L.take pp) (l₂:=L.drop pp)
   rwa [List.take_append_drop]at this
  have r:((kx::L.map (·.1))).Nodup:=MM.mpr ⟨Y,k.nd⟩;have H:∀J:List KA,J.Perm ((kx,ax)::L)->(J.map (·.1)).Nodup:=fun J hp=>(NH (hp.map (fun p:KA=>p.1))).mpr r;by_cases hful:t1.tooFull=bc
  ·rw [hful];simp only[Bool.not_false,QD,if_true];have O:(es.size+1)*5 ≥ t.mask*3:=by
    unfold SetTable.tooFull SetTable.fill at hful;rw[T.siz,T.dum,B,Z]at hful;simpa using hful
   have c:es.size+1=5:=by
    have:=k.ok.few;rcases k.ok.msk with z|z<;>rw[z]at O this<;>omega
   obtain⟨v,ord,r1,r2,r3,r4,r5,r6⟩:=Az (t:=t1) (es:=eu es pp (iY prog w kx,er ax)) (by rw[Z];exact c)
   have C:t1.fits (eu es pp (iY prog w kx,er ax)).size=true:=T.fits (by
    rw[Z,B];have:=k.ok.few;rcases k.ok.msk with z|z<;>rw[z]at this⊢<;>omega)
   unfold setRelay;refine LP (LP (Nf (s:={s with heap:=s.heap.update a (M' (eu es pp (iY prog w kx,er ax)) t1)}) g1 rfl C ?_));simp only;rw[c];rw[if_neg (by rw[MT];decide)]
   rw[r1];refine LP ?_;have step:∀(R:Array Ent×mu->b_->Prop) (s1:b_),R (ord.filterMap ((eu es pp (iY prog w kx,er ax))[·]?),v) s1->
     eb (e_ prog w) A (if ((ord.filterMap ((eu es pp (iY prog w kx,er ax))[·]?)).size !=(eu es pp (iY prog w kx,er ax)).size)=bc
      then (do unsupported "internal:set-table-lost-an-element";a_ (ord.filterMap ((eu es pp (iY prog w kx,er ax))[·]?),v))else a_ (ord.filterMap ((eu es pp (iY prog w kx,er ax))[·]?),v)) R E s1:=fun R s1 hR=>by
    rw[if_neg (by rw[r3];simp)]
    exact LS hR
   refine step _ _ ?_;refine wpAny_storeSet_of (s:={s with heap:=s.heap.update a (M' (eu es pp (iY prog w kx,er ax)) t1)}) g1 rfl ?_ (by rw[r3,Z,MT];omega)
   have N:(ord.filterMap ((eu es pp (iY prog w kx,er ax))[·]?)).toList=(ord.toList.filterMap ((L.take pp++(kx,ax)::L.drop pp)[·]?)).map (ent prog w):=by
    rw[Array.toList_filterMap,List.map_filterMap];refine mX fun i _=>?_;rw[<-Mq,X,Mi]
   have U:(ord.toList.filterMap ((L.take pp++(kx,ax)::L.drop pp)[·]?)).Perm ((kx,ax)::L):=by
    refine(r2.filterMap _).trans ?_;have e1:(eu es pp (iY prog w kx,er ax)).size=(L.take pp++(kx,ax)::L.drop pp).length:=by
     rw[<-NG,X,LR]
    rw[e1,Oa];exact W
   refine LS (h _ _ _ _ _ _ _ ⟨yT g1 rfl,k.ex,rfl,r4,by rw[r6,F];exact k.pln,by rw[r5,y];exact k.led,N,H _ U⟩ (I.trans (Ng _ a _)) (.inr ⟨Y,U⟩))
  ·simp only[hful,Py,ey,if_false];refine LS ?_;refine h _ _ _ _ _ _ _ ⟨g1,k.ex,rfl,⟨T,?_⟩,by rw[F];exact k.pln,by rw[y];exact k.led,X,H _ W⟩ I (.inr ⟨Y,W⟩)
   unfold SetTable.tooFull SetTable.fill at hful;rw[T.siz,T.dum]at hful;have S:¬ (eu es pp (iY prog w kx,er ax)).size*5 ≥ t1.mask*3:=by simpa using hful
   exact Nat.lt_of_not_ge S
end
theorem xM{h':fg}(x:lz (n_ prog w) h k a)(e:∀o,h.get? a=ar o->h'.get? a=ar o):lz (n_ prog w) h' k a:=
 let ⟨o,its,n,ho,r⟩:=x
 ⟨o,its,n,e o ho,r⟩
theorem SetAt.at{h':fg}(k:SetAt prog w h a o es ep t L)(e:∀o,h.get? a=ar o->h'.get? a=ar o):SetAt prog w h' a o es ep t L:=
 {k with get:=e o k.get}
structure Folded(kv L:List KA):Prop where
 nd:(L.map (·.1)).Nodup
 mem:∀k,k∈L.map (·.1)↔k∈kv.map (·.1)
 sub:∀p∈L,p∈kv
 len:L.length<=kv.length
theorem Folded.nil:Folded [] []:=⟨.nil,fun _=>.rfl,fun _ h=>h,LU _⟩
theorem Folded.add(f:Folded kv L)(h:Jy L p L'):Folded (kv++[p]) L':=by
 rcases h with⟨h1,rfl⟩|⟨h1,h2⟩
 ·refine⟨f.nd,fun k=>?_,fun q Z=>N8 _ (f.sub q Z),by have:=f.len;simp;omega⟩
  rw[f.mem,MY,M6];refine⟨.inl,fun z=>z.elim id fun z=>?_⟩;have:k=p.1:=by simpa using z
  rw[this];exact(f.mem _).mp h1
 ·have hm:=h2.map (fun q:KA=>q.1);refine⟨(NH hm).mpr (MM.mpr ⟨h1,f.nd⟩),fun k=>?_,fun q Z=>?_,by have:=f.len;rw[h2.length_eq];simp;omega⟩
  ·rw[hm.mem_iff,Mh,Me,f.mem,MY,M6];constructor
   ·rintro(rfl|z)
    ·exact .inr (by simp)
    ·exact .inl z
   ·rintro(z|z)
    ·exact .inr z
    ·exact .inl (by simpa using z)
  ·rcases Me.mp (h2.mem_iff.mp Z)with rfl|z
   ·exact Mt _ (NV.mpr rfl)
   ·exact N8 _ (f.sub q z)
section
variable {prog:ee}{w:eM}{A:gd}{R:RW->b_->Prop}{I:dt}{fp wr:List dt}{G:Array P9->Array P9->Prop}{n:Nat}{P:Nat->aC->Prop}{St:Nat->b_->Prop}
theorem Ez(W:WalksS prog w A.in1 I fp wr G n P St)(K:S∉fp)(Z:Nat->KA)(x:∀i v,P i v->v= .ref (Z i).2)(hn:n<=18)(d:A.in1.units<u4)(H:∀i,i<n->(Z i).2∉S::wr):
  ∀(c i:Nat) (s:b_),n - i=c->i<=n->St i s->(∀j,j<n->lz (n_ prog w) s.heap (Z j).1 (Z j).2)->∀o es ep t L,SetAt prog w s.heap S o es ep t L->Folded ((ed i).map Z) L->
   (∀s',Moved (S::wr) G s s'->∀o es ep t L,SetAt prog w s'.heap S o es ep t L->Folded ((ed n).map Z) L->R (.ok (.ret .none)) s')->
   B_ (e_ prog w) A (.builtin "set.update.loop" ⟨[.ref S,.ref I],[]⟩) R s:=by
 have E:S∉wr:=fun h=>K (W.sub _ h);have X:∀b∈wr,b∈S::wr:=fun b J=>L5 _ J;intro c
 induction c with
 |zero=>
  intro i s hc hi O f o es ep t L l B u;obtain rfl:i=n:=by omega
  refine N0 F.entry_set_update_loop ?_;rw[Nz Ow _];show eb _ A.in1 (z_ (.ref I)>>=_) _ _ s;refine LP (W.done s _ _ O fun s' hm=>?_);show eb _ A.in1 (ret hJ) _ _ s';exact LS (u s' (hm.mono X) o es ep t L (l.at fun N e=>hm.heap S N E e) B)
 | succ c ih=>
  intro i s hc hi O f o es ep t L l B u;have Y:i<n:=by omega
  refine N0 F.entry_set_update_loop ?_;rw[Nz Ow _];show eb _ A.in1 (z_ (.ref I)>>=_) _ _ s;refine LP (W.item i s _ _ Y O fun v s' a y hm=>?_);cases x i v a;have q:=l.at (h':=s'.heap) fun N e=>hm.heap S N E e;have U:∀j,j<n->lz (n_ prog w) s'.heap (Z j).1 (Z j).2:=fun j T=>xM (f j T) fun N e=>hm.heap _ N (fun z=>H j T (X _ z)) e;show eb _ A.in1 (A' [er (Z i).2] (setAdd S (.ref (Z i).2))>>=_) _ _ s';refine LP (ME ?_);unfold setAdd;refine ME ?_;refine LP (wpAny_pyHash_tuple d (U i Y) ?_);have a0:L.length<=i:=by have:=B.len;simpa using this
  have m:xK prog w s'.heap L:=fun p hp=>by
   obtain⟨j,T,rfl⟩:=Mp.mp (B.sub p hp);exact U j (OP (L9.mp T) Y)
  refine Hl (s:={s' with toks:=s'.toks+((Z i).1.length+1)}) d q m (U i Y) (by omega) fun b h' N es' a6 t' L' g Q hA=>?_
  have k:Folded ((ed (i+1)).map Z) L':=by
   rw[List.range_succ,MY];exact B.add hA
  refine LS ⟨PK Ow _,ih (i+1) _ (by omega) Y (W.frame _ s' _ _ y (NN _ _) fun b J o e=>?_) (fun j T=>xM (U j T) fun o e=>?_) _ _ _ _ _ g k fun r C=>?_⟩
  ·rw[Q.2 b (fun h:b=S=>K (by rw[<-h];exact J))];exact e
  ·rw[Q.2 _ (fun h=>H j T (by rw[h];exact Md))];exact e
  ·refine u r (Moved.trans W.gtrans ((hm.mono X).then_heap (NN _ _) fun b o J e=>?_) C);rw[Q.2 b (fun h:b=S=>J (by rw[h];exact Md))];exact e
end
section
variable {prog:ee}{w:eM}{A:gd}{E:aC->b_->Prop}{s:b_}
theorem vN:Q2 (.type "tuple") (.type "set")=a_ false:=by rw[OM];kernel_rfl
theorem uw:Q2 (.type "tuple") (.type "frozenset")=a_ false:=by rw[OM];kernel_rfl
def eL(led:Bool):Obj:={cls:=.type "set",dict:=none,data:=.set #[] 0 (.fresh 0 0 led)}
def i7(w:eM):Bool:= !(w.params.followText "set-order")
def Src(h:fg)(x:dt)(items:Array aC):Prop:=h.IsList x items\/h.IsTuple x items
theorem Src.at{h':fg}(r:Src h x items)(e:∀o,h.get? x=ar o->h'.get? x=ar o):Src h' x items:=by
 rcases r with⟨o,ho,r⟩|⟨o,ho,r⟩
 ·exact .inl ⟨o,e o ho,r⟩
 ·exact .inr ⟨o,e o ho,r⟩
theorem Src.lt(r:Src h x items):x<h.objs.size:=by
 rcases r with⟨o,ho,_⟩|⟨o,ho,_⟩<;>exact LZ ho
theorem Cm(r:Src s.heap x items)
  (h:∀(ob:Obj) (St:Nat->fg->Prop),(∀Y:gd,Y.handled=none->Walks prog w Y s.heap.objs.size [s.heap.objs.size,x] [s.heap.objs.size] items.size (fun i v=>items[i]? =ar v) St)->St 0 (s.heap.push ob)->
   Q (.ref s.heap.objs.size) {s with heap:=s.heap.push ob}):eb (e_ prog w) A (Rh (.ref x)) Q E s:=by
 have Z:x≠s.heap.objs.size:=L7 r.lt;rcases r with r|r
 ·refine Pn r (h _ _ (fun Y X=>Walks.list X s.heap.objs.size x Z items) ⟨⟨_,L3 _ rfl,rfl,rfl⟩,r.push _⟩)
 ·refine Nk r (h _ _ (fun Y X=>Walks.tuple X s.heap.objs.size x Z items) ⟨⟨_,L3 _ rfl,rfl,rfl⟩,?_⟩);obtain⟨o,W,q⟩:=r;exact⟨o,LQ _ W,q⟩
theorem K6(a:aC){Q1:aC->b_->Prop}(h:Q1 (.ref s.heap.objs.size) {s with heap:=s.heap.push (eL (i7 w))}):
  B_ (e_ prog w) A (.call (.builtin "set.__new__") ⟨[.type "set",a],[]⟩) (wants Q1 E) s:=by
 refine P3 ?_;show eb _ A.in1 (do L_ "set.__new__" ⟨[.type "set",a],[]⟩;Ri (.builtin "set.__new__" ⟨[.type "set",a],[]⟩)) _ _ s
 refine LP (Q7 (F.newCall_set_1 a) (LS ⟨PK F.plain_set_new _,N0 F.entry_set_new ?_⟩));rw[Nz F.plain_set_new _];unfold Builtin.«set.__new__» Builtin.Frozenset.newClass;have Z:=sub_set_self;obtain⟨X,g,d,Y,os⟩:=s;dsimp only
 wp_walk
 refine Of (LS ?_);dsimp only;simp only[newObj];exact LP (wpAny_alloc (LS (LS h)))
theorem Cn(r:Src s.heap x items):∃T,s.TypeIs (.ref x) T/\Q2 (.type T) (.type "set")=a_ c_/\Q2 (.type T) (.type "frozenset")=a_ c_/\(t5 T==t5 "dict")=false:=by
 rcases r with⟨o,ho,hc,_⟩|⟨o,ho,hc,_⟩
 ·exact⟨"list",⟨o,ho,hc⟩,F.sub_list_set,F.sub_list_frozenset,by decide⟩
 ·exact⟨"tuple",⟨o,ho,hc⟩,vN,uw,by decide⟩
set_option maxHeartbeats 8000000 in
theorem Hm(hh:A.handled=none)(hu:A.in1.in1.in1.units<u4)(r:Src s.heap x items)(X:Nat->KA)(S:∀(i:Nat) (v:aC),items[i]? =ar v->v= .ref (X i).2)(hn:items.size<=18)
  (p:∀j,j<items.size->lz (n_ prog w) s.heap (X j).1 (X j).2)
  (h:∀(h':fg) (tk:Nat) o es ep t L,SetAt prog w h' s.heap.objs.size o es ep t L->Folded ((ed items.size).map X) L->(∀b o,b<s.heap.objs.size->s.heap.get? b=ar o->h'.get? b=ar o)->
   Q (.ref s.heap.objs.size) {s with heap:=h',toks:=tk}):eb (e_ prog w) A (call (.type "set") [.ref x]) Q E s:=by
 obtain⟨c,tl,q⟩:=F.called_set.mro;have H:=F.called_set.made;have u:=F.called_set.sub;refine OG (P3 ?_);show eb _ _ (callAny (.type "set") _) _ _ _;refine LS ⟨Pg _ (by decide+kernel),N0 F.entry_type_call ?_⟩
 rw[Around.under_plain (weight_type_call_type "set" [.ref x] []) rfl];have h1:=F.called_set.notType;have h2:=F.called_set.canCreate;have d:=F.typeCall_set_1 (.ref x)
 repeat (any_goals (first|assumption|wp_step))
 refine NC (K6 (.ref x) (E:=E) (Q1:=fun obj s1=>obj= .ref s.heap.objs.size/\s1={s with heap:=s.heap.push (eL (i7 w))}) ⟨rfl,rfl⟩) fun rr s1 C=>?_;cases rr with
 |error e=>exact C
 | ok fl=>
  cases fl with
  | ret obj=>
   obtain⟨rfl,rfl⟩:=C;have n:(s.heap.push (eL (i7 w))).get? s.heap.objs.size=ar (eL (i7 w)):=L3 _ rfl;have B:QE {s with heap:=s.heap.push (eL (i7 w))} (.ref s.heap.objs.size) "set":=⟨_,n,rfl⟩;have b3:=F.called_set.init.lookup;have a3:=F.called_set.init.bind (.ref s.heap.objs.size)
   repeat (any_goals (first|assumption|wp_step))
   refine NC (OW (R:=wants (fun r s2=>r= .none/\Q (.ref s.heap.objs.size) s2) E) F.called_set.init.plain F.entry_set_init (check_set_init_1 B ?_)) fun k s2 Z=>?_
   ·have m:Src (s.heap.push (eL (i7 w))) x items:=r.at fun o e=>LQ _ e;obtain⟨Tx,a4,l,g,hd⟩:=Cn (s:={s with heap:=s.heap.push (eL (i7 w))}) m;unfold Builtin.«set.__init__» noKeywords Builtin.Frozenset.updateFrom;generalize hPI:Rh=PI;have a:=B;unfold eL at n
    wp_walk
    subst hPI;refine Cm (s:={s with heap:=s.heap.push (eL (i7 w))}) m fun z St W I=>?_;refine LP (wpAny_runValue ?_);have G:x<s.heap.objs.size:=r.lt;have Y:(s.heap.push (eL (i7 w))).objs.size=s.heap.objs.size+1:=M5 _ _;have P:s.heap.objs.size∉[(s.heap.push (eL (i7 w))).objs.size,x]:=by
     rw[Y];simp only[f_,fb,or_false,not_or];exact⟨L7 (NM _),Nn G⟩
    have O:A.in1.in1.in1.handled=none:=by simp[hh]
    have up:∀b o,s.heap.get? b=ar o->((s.heap.push (eL (i7 w))).push z).get? b=ar o:=fun b o e=>LQ _ (LQ _ e);have T:∀j,j<items.size->(X j).2<s.heap.objs.size:=fun j U=>let ⟨_,_,_,e,_⟩:=p j U;LZ e;have S0:SetAt prog w ((s.heap.push (eL (i7 w))).push z) s.heap.objs.size (eL (i7 w)) #[] 0 (.fresh 0 0 (i7 w)) []:=
     ⟨LQ _ (L3 _ rfl),⟨rfl,rfl,rfl⟩,rfl,Ce _,rfl,rfl,rfl,.nil⟩
    refine Ez ((W _ O).toS) P X S hn hu (fun j U=>?_) (items.size - 0) 0 _ rfl (Mg _) I (fun j U=>xM (p j U) fun o e=>up _ o e) _ _ _ _ _ S0 .nil fun s' hm o es ep t L K hF=>?_
    ·rw[Y];have:=T j U;simp only[f_,fb,or_false,not_or];exact⟨L7 this,L7 (M3 this)⟩
    ·obtain⟨h',g',d',N,J⟩:=s';have eg:g'=s.gens:=hm.gens;have f:d'=s.drawn:=hm.drawn;have eo:J=s.os:=hm.os;subst eg f eo;show eb _ _ _ _ _ _;refine LS ?_;show eb _ _ (ret hJ) _ _ _;refine LS ⟨rfl,h h' N o es ep t L K hF fun b o y e=>?_⟩;refine hm.heap b o ?_ (up b o e);rw[Y];simp only[f_,fb,or_false,not_or];exact⟨L7 y,L7 (M3 y)⟩
   ·cases k with
    |error e=>exact Z
    | ok fl2=>
     cases fl2 with
     |ret rv=>
      obtain⟨rfl,hq⟩:=Z
      repeat (any_goals (first|assumption|wp_step))
     |_=>exact Z.elim
  |_=>exact C.elim
end
theorem qw{α:Type}:∀{l:List α} {i:Nat} {x:α},l[i]? =ar x->l.Perm (x::l.eraseIdx i)
 |[],_,_,h=>by simp at h
 |y::l,0,x,h=>by simp at h;subst h;exact .refl _
 |y::l,i+1,x,h=>by
  have:=qw (l:=l) (i:=i) (x:=x) (by simpa using h)
  rw[List.eraseIdx_cons_succ];exact(EW y this).trans (.swap _ _ _)
theorem yU{α:Type}(Z:Nat->Nat):∀(fuel k:Nat) (left:List α) (out:Array α),left.length=fuel->(QR Z fuel k left out).toList.Perm (out.toList++left)
 |0,k,left,out,h=>by
  have:left=[]:=List.length_eq_zero_iff.mp h;subst this;unfold QR;simp
 |fuel+1,k,left,out,h=>by
  unfold QR;have Y:Z k % left.length<left.length:=Pw _ (by omega)
  have X:left[Z k % left.length]? =ar left[Z k % left.length]:=LV Y
  rw[X];simp only;refine(yU Z fuel (k+1) _ _ (by rw[O9 Y];omega)).trans ?_
  rw[Array.toList_push,Mr];exact List.Perm.append_left _ (qw X).symm
theorem AB{α:Type}(Z:Nat->Nat)(xs:Array α):(Q3 Z xs).toList.Perm xs.toList:=by
 have:=yU Z xs.size 0 xs.toList #[] (by simp)
 simpa [Q3]using this
def j5(w:eM)(a:dt)(ep:Nat)(es:Array Ent):Array Ent:=if w.params.followText "set-order"=bc then Q3 (w.params.setOrder a ep) es else es
theorem sM(w:eM)(a:dt)(ep:Nat)(es:Array Ent):(j5 w a ep es).toList.Perm es.toList:=by
 unfold j5;split
 ·exact AB _ _
 ·exact .refl _
theorem la(w:eM)(a:dt)(ep:Nat)(es:Array Ent):(j5 w a ep es).size=es.size:=by
 have:=(sM w a ep es).length_eq;simpa using this
theorem ft:Slot "set_iterator" "__next__" "set_iterator.__next__":=
 .of (owner:="set_iterator") (n:="__next__") (by rw[P4,OQ];kernel_rfl) (by decide+kernel) (by decide+kernel) (by decide+kernel)
  (by first|exact .inl (by decide+kernel)|exact .inr (by decide+kernel)) (by rw[OM];kernel_rfl)
theorem lG:RQ table "set_iterator.__next__"=ar Builtin.«set_iterator.__next__»:=entryFor_of_fast (by kernel_rfl)
theorem mY(a:aC):R0 "set_iterator.__next__" ⟨[a],[]⟩:=by unfold R0;kernel_rfl
theorem qx:RQ table "set.__iter__"=ar Builtin.«frozenset.__iter__»:=
 entryFor_alias (id':="frozenset.__iter__") (by kernel_rfl) rfl (by decide+kernel) (by kernel_rfl)
section
variable {prog:ee}{w:eM}{A:gd}{E:aC->b_->Prop}{s:b_}
def ic(w:eM)(t:mu)(i:Nat):Nat:=if w.params.followText "set-order"=bc then 0 else match i with
 |0=>0
 |i+1=>t.place.getD i 0+1
structure IterAt(w:eM)(h:fg)(I a:dt)(t:mu)(sz ep i:Nat):Prop where
 ex:∃o,h.get? I=ar o/\o.cls= .type "set_iterator"/\o.data= .fields #[.int (ic w t i) 0,.int i 0,.ref a,.int sz 0,.int ep 0]
theorem IterAt.typeIs(k:IterAt w s.heap I a t sz ep i):s.TypeIs (.ref I) "set_iterator":=
 let ⟨o,ho,hc,_⟩:=k.ex
 ⟨o,ho,hc⟩
theorem yV(k:SetAt prog w s.heap a o es ep t L)(hi:i<=es.size){Q:Option (aC×Nat)->b_->Prop}
  (h:Q (((j5 w a ep es)[i]?).map fun e=>(e.2,ic w t (i+1))) s):eb (e_ prog w) A (setNext a (ic w t i) i ep) Q E s:=by
 unfold setNext;refine LP (Nf k.get k.dat k.fits ?_);simp only;unfold Rt;refine LP (LP (Of (LS ?_)));show eb _ _ (if (w.params.followText "set-order")=bc then _ else _) _ _ s;by_cases hw:w.params.followText "set-order"=bc
 ·rw[if_pos hw];simp only[bne_self_eq_false,ey,if_false];unfold setWalk;refine LP (LP (Nf k.get k.dat k.fits ?_));simp only;unfold Rt;refine LP (LP (Of (LS ?_)));show eb _ _ (if (w.params.followText "set-order")=bc then _ else _) _ _ s;rw[if_pos hw];refine LP (Of (LS ?_));refine LS ?_;have e1:j5 w a ep es=Q3 (w.params.setOrder a ep) es:=by unfold j5;rw[if_pos hw]
  have e2:∀j,ic w t j=0:=fun j=>by unfold ic;rw[if_pos hw]
  rw[e1,e2]at h;rw[e2];exact h
 ·rw [if_neg hw];have P:(!t.plain && decide (es.size>1))=false:=by rw[k.pln];rfl
  have K:t.led=true:=by rw[k.led];simpa using hw
  have e1:j5 w a ep es=es:=by unfold j5;rw[if_neg hw]
  have e2:∀j,ic w t j=match j with|0=>0|j+1=>t.place.getD j 0+1:=fun j=>by unfold ic;rw[if_neg hw]
  have J:Qk t.place (ic w t i)=i:=by
   obtain⟨T,Y,W⟩:=qp k.ok.ris (ic w t i);cases i with
   | zero=>
    rw[e2]at T Y W⊢;simp only at T Y W⊢;rcases Nat.eq_zero_or_pos (Qk t.place 0)with z|z
    ·exact z
    ·have Z:0<t.place.size:=by omega
     have:=Y 0 _ z (L4 Z);omega
   | succ i=>
    have X:i<t.place.size:=by rw[k.ok.siz];omega
    have S:t.place.getD i 0=t.place[i]:=by simp[Rr,X]
    rw[e2]at T Y W⊢;simp only[S]at T Y W⊢;have O:=L4 X;rcases Px (Qk t.place (t.place[i]+1)) (i+1)with l|l|l
    ·have:=W i _ (by omega) O
     omega
    ·exact l
    ·have Z:i+1<t.place.size:=by omega
     have G:=Y (i+1) _ l (L4 Z);have H:=k.ok.ris i (i+1) _ _ (by omega) O (L4 Z)
     omega
  generalize hu:PySem.unsupported=U;show eb _ _ (if (!t.plain && decide (es.size>1))=bc then _ else _) _ _ s;rw[P];simp only[ey,if_false];have hm:∀R:Unit->b_->Prop,R () s->eb (e_ prog w) A (if (!t.led && !es.isEmpty)=bc then unsupported "set:maker-not-led" else a_ ()) R E s:=fun R I=>by
   rw[K];simp only[p0,Bool.false_and,ey,if_false];exact LS I
  refine LP (hm _ ?_);refine LS ?_;rw[J];rw[e1,e2]at h;simp only at h;by_cases Z:i<es.size
  ·have N:i<t.place.size:=by rw[k.ok.siz];exact Z
   have S:t.place.getD i 0=t.place[i]:=by simp[Rr,N]
   rw[L4 Z,S]at h;rw[L4 Z,L4 N];exact h
  ·rw[Nb (by omega)]at h
   rw[Nb (by omega)]
   exact h
end
theorem Co{α X:Type}{f:α->X}{l Y:List X}(h:l.Perm Y):∀L:List α,Y=L.map f->∃Z:List α,Z.Perm L/\l=Z.map f:=by
 induction h with
 |nil=>intro L e;exact⟨[],by rw[List.map_eq_nil_iff.mp e.symm],rfl⟩
 | cons x _ ih=>
  intro L e;cases L with
  |nil=>cases e
  |cons y L=>
   rw[Mh]at e;injection e with e1 e2;obtain⟨Z,p,q⟩:=ih L e2;exact⟨y::Z,p.cons y,by rw[q,e1];rfl⟩
 | swap x y l=>
  intro L e
  match L,e with
  |[],e=>cases e
  |[_],e=>rw[Mh]at e;injection e with _ e;cases e
  |a::b::L,e=>
   rw[Mh,Mh]at e;injection e with e1 e2;injection e2 with e2 e3;exact⟨b::a::L,.swap _ _ _,by rw[e1,e2,e3];rfl⟩
 |trans _ _ ih1 ih2=>
  intro L e;obtain⟨L1,T,R⟩:=ih2 L e;obtain⟨W,S,U⟩:=ih1 L1 R;exact⟨W,S.trans T,U⟩
section
variable {prog:ee}{w:eM}{A:gd}{E:aC->b_->Prop}{s:b_}
theorem sN{h:fg}{g:Array aC->Array aC}(Y:h.get? I=ar o)(Z:o.data= .fields fs):
  ∃o',(h.update I (y7 g)).get? I=ar o'/\o'.cls=o.cls/\o'.data= .fields (g fs):=
 ⟨_,MS _ Y (N1 (Nl Z _)),PC ..,Nl Z _⟩
theorem next_item{Q:Option aC->b_->Prop}(k:SetAt prog w s.heap a o es ep t L)(Z:IterAt w s.heap I a t es.size ep i)(O:I≠a)
  (W:(j5 w a ep es)[i]? =ar e) (R:∀h',IterAt w h' I a t es.size ep (i+1)->r7 I s.heap h'->Q (ar e.2) {s with heap:=h'}):eb (e_ prog w) A (z_ (.ref I)) Q E s:=by
 obtain⟨J,Y,S,hd⟩:=Z.ex;have X:i<es.size:=by rw[<-la w a ep es];exact(Mm.mp W).1
 unfold z_;refine LP (N6 (wpAny_callSpecial?_slot (name:=hO "__next__") Z.typeIs ft
  (ML ft Z.typeIs lG ?_ (mY _))))
 unfold Builtin.«set_iterator.__next__»;refine LP (m:=RR "__next__" 0 _) (LS ?_);refine LP (wpAny_fieldsOf Y hd ?_);simp only;refine LP (O5 k.get k.dat k.fits ?_);rw[if_neg (by simp)]
 refine LP ?_;rw[MB,MB,MB];refine yV k (Nu X) ?_;rw[W];simp only[z4];refine LP (NQ Y hd (by simp) ?_)
 obtain⟨T,g1,K,U⟩:=sN (g:=fun fs=>fs.set! 0 (m_ (ic w t (i+1):Nat))) Y hd;refine LP (NQ (o:=T) (s:={s with heap:=_}) g1 U (by simp) (LS ⟨e.2,rfl,LS (R _ ?_ ((Ng ..).trans (Ng ..)))⟩))
 obtain⟨o2,g2,N,P⟩:=sN (g:=fun fs=>fs.set! 1 (m_ ((i:Int)+1))) g1 U;refine⟨o2,g2,by rw[N,K];exact S,?_⟩
 rw[P];simp[m_]
theorem next_end{Q:Option aC->b_->Prop}(Y:A.handled=none)(k:SetAt prog w s.heap a o es ep t L)(Z:IterAt w s.heap I a t es.size ep es.size)
  (W:∀h',Q8 I s.heap h'->Q none {s with heap:=h'}):eb (e_ prog w) A (z_ (.ref I)) Q E s:=by
 obtain⟨S,X,U,hd⟩:=Z.ex;unfold z_;refine LP (N6 (wpAny_callSpecial?_slot (name:=hO "__next__") Z.typeIs ft
  (ML ft Z.typeIs lG ?_ (mY _))))
 unfold Builtin.«set_iterator.__next__»;refine LP (m:=RR "__next__" 0 _) (LS ?_);refine LP (wpAny_fieldsOf X hd ?_);simp only;refine LP (O5 k.get k.dat k.fits ?_);rw[if_neg (by simp)]
 refine LP ?_;rw[MB,MB,MB];refine yV k (LU _) ?_;rw[Nb (by rw[la];exact LU _)]
 simp only[Option.map_none];refine LP (NQ X hd (by simp) ?_)
 show eb _ _ (R1 (.type "StopIteration") []>>=_) _ _ _;refine LP ?_;simp only[R1,newTuple];refine LP (Mw ?_ (by size_fits))
 refine LP (m:=F0 _ _) (Q7 (a:=hJ) (by first|rfl|(simp only[F0];rfl)) ?_)
 refine Mw ?_ (by size_fits)
 simp only[raiseNew];refine LP (wpAny_handled ?_);first|rw[show A.in1.handled=none from Y]|rw[Y]
 refine LP (LS (wpAny_throw ?_));refine LP (NO (T:="StopIteration") (b:=bc) ⟨_,L3 _ rfl,rfl⟩ ON ?_);exact LS (W _ (((Ng ..).extBut.push _).push _))
theorem IterAt.at{h':fg}(k:IterAt w h I a t sz ep i)(e:∀o,h.get? I=ar o->h'.get? I=ar o):IterAt w h' I a t sz ep i:=
 let ⟨o,ho,r⟩:=k.ex
 ⟨⟨o,e o ho,r⟩⟩
theorem mZ:Slot "set_iterator" "__iter__" "set_iterator.__iter__":=
 .of (owner:="set_iterator") (n:="__iter__") (by rw[P4,OQ];kernel_rfl) (by decide+kernel) (by decide+kernel) (by decide+kernel)
  (by first|exact .inl (by decide+kernel)|exact .inr (by decide+kernel)) (by rw[OM];kernel_rfl)
theorem rT:RQ table "set_iterator.__iter__"=ar Builtin.«dict_keyiterator.__iter__»:=
 entryFor_alias (id':="dict_keyiterator.__iter__") (by kernel_rfl) rfl (by decide+kernel) (by kernel_rfl)
theorem ux(a:aC):R0 "set_iterator.__iter__" ⟨[a],[]⟩:=by unfold R0;kernel_rfl
theorem Cp{Q:aC->b_->Prop}(k:SetAt prog w s.heap a o es ep t L)
  (P:∀ob,IterAt w (s.heap.push ob) s.heap.objs.size a t es.size ep 0->Q (.ref s.heap.objs.size) {s with heap:=s.heap.push ob}):eb (e_ prog w) A (Rh (.ref a)) Q E s:=by
 have U:s.TypeIs (.ref a) "set":=⟨o,k.get,k.ex.1⟩;refine wpAny_pyIter_slot U F.slot_set_iter (ML F.slot_set_iter U qx ?_ (F.args_set_iter_1 _));unfold Builtin.«frozenset.__iter__» Builtin.Frozenset.slot0;refine LP (LP (m:=RR "__iter__" 0 _) (LS ?_));refine LS ?_;unfold Builtin.Frozenset.sizeOf;refine LP (LP (O5 k.get k.dat k.fits (LS ?_)));unfold setDrawn;refine LP (LP (Nf k.get k.dat k.fits ?_));simp only;unfold Rt;refine LP (LP (Of (LS ?_)));refine LS ?_;have W:(!(w.params.followText "set-order") && (!t.plain && decide (es.size>1)))=false:=by rw[k.pln];simp
 have Z:∀(X Y:Sem Fin) (R:Fin->b_->Prop),eb (e_ prog w) A.in1 Y R E s->eb (e_ prog w) A.in1 (if (!(w.params.followText "set-order") && (!t.plain && decide (es.size>1)))=bc then X else Y) R E s:=fun X Y R S=>by
  rw[W];simp only[ey,if_false];exact S
 refine Z _ _ _ ?_;refine LP (LS ?_);refine LP (wpAny_setEpoch_of k.get k.dat k.fits ?_);refine LP (Mw (LS ⟨_,rfl,"set_iterator",_,⟨_,L3 _ rfl,rfl⟩,ft.lookup,P _ ⟨⟨_,L3 _ rfl,rfl,?_⟩⟩⟩));have T:ic w t 0=0:=by
  unfold ic;split<;>rfl
 rw[T];rfl
theorem AC{es:Array Ent}(O:A.handled=none)(U:I≠a):Walks prog w A I [I,a] [I] es.size (fun i v=>∃e,(j5 w a ep es)[i]? =ar e/\v=e.2)
  (fun i h=>SetAt prog w h a o es ep t L/\IterAt w h I a t es.size ep i) where
 sub:=fun b Y=>by simp at Y;simp[Y]
 frame:=fun i h h' st P=>⟨st.1.at fun Z e=>P a (by simp) Z e,st.2.at fun Z e=>P I (by simp) Z e⟩
 item:=fun i s Q E hi st W=>by
  have S:i<(j5 w a ep es).size:=by rw[la];exact hi
  have he:=L4 S;exact next_item st.1 st.2 U he fun h' X T=>W _ h' s.toks ⟨_,he,rfl⟩ ⟨st.1.at fun Z e=>T.extBut a Z (kr U) e,X⟩ fun b Z Y e=>T.extBut b Z (fun z=>Y (by simp[z])) e
 done:=fun s Q E st W=>next_end O st.1 st.2 fun h' R=>W h' s.toks fun b Z Y e=>R b Z (fun z=>Y (by simp[z])) e
 self:=fun i s Q E st W=>by
  refine wpAny_pyIter_slot st.2.typeIs mZ (ML mZ st.2.typeIs rT ?_ (ux _));show eb _ _ (ret (.ref I)) _ _ s;exact LS ⟨_,rfl,"set_iterator",_,st.2.typeIs,ft.lookup,W⟩
theorem vO{Q:List aC->b_->Prop}(h:A.handled=none)(k:SetAt prog w s.heap a o es ep t L)(g:es.size<=18)
  (r:∀(h':fg) (tk:Nat) (N:List KA),N.Perm L->(∀b o,s.heap.get? b=ar o->h'.get? b=ar o)->Q (N.map fun p=>er p.2) {s with heap:=h',toks:=tk}):
  eb (e_ prog w) A (R8 (.ref a)) Q E s:=by
 have Y:a<s.heap.objs.size:=LZ k.get;unfold R8;refine LP (wpAny_runValue (N0 F.entry_proto_collect ?_));rw[Nz F.plain_proto_collect _];show eb _ A.in1 (R7 []>>=fun l=>Ri (.builtin "list.__iadd__" ⟨[l,.ref a],[]⟩)) _ _ s;refine LP (Mw ?_);refine LS ⟨PK F.plain_list_iadd _,N0 F.entry_list_iadd ?_⟩;rw[Nz F.plain_list_iadd _];have k1:SetAt prog w (s.heap.push {cls:=.type "list",data:=.seq ([]:List aC).toArray}) a o es ep t L:=k.at fun Z e=>LQ _ e;have z:(s.heap.push {cls:=.type "list",data:=.seq ([]:List aC).toArray}).get? s.heap.objs.size=ar {cls:=.type "list",data:=.seq ([]:List aC).toArray}:=L3 _ rfl;have u:QE {s with heap:=s.heap.push {cls:=.type "list",data:=.seq ([]:List aC).toArray}} (.ref a) "set":=⟨o,k1.get,k1.ex.1⟩;have U:Builtin.List.listSameRef (.ref s.heap.objs.size) (.ref a)=false:=by simp[Builtin.List.listSameRef,Nat.ne_of_gt Y]
 show eb _ A.in1 (Builtin.List.listExtendWith (.ref s.heap.objs.size) (.ref a) (.ref s.heap.objs.size)) _ _ _;unfold Builtin.List.listExtendWith;refine LP (NY u ?_);rw[if_neg (by rw[U];decide)]
 refine LP (Cp (s:={s with heap:=s.heap.push {cls:=.type "list",data:=.seq ([]:List aC).toArray}}) k1 fun R hit=>?_);refine LP (ME ?_);have T:QE {s with heap:=(s.heap.push {cls:=.type "list",data:=.seq ([]:List aC).toArray}).push R} (.ref a) "set":=⟨o,LQ _ k1.get,k1.ex.1⟩;unfold Builtin.List.listLengthHint;refine LP (wpAny_specialOf T F.slot_set_len.lookup ?_);generalize hZ:("set.__len__":String)=id0
 wp_delta
 rw[show splitId id0=ar ("set","__len__")from by subst hZ;decide+kernel]
 subst hZ;refine LP (NO (b:=bc) T sub_set_self ?_);rw[if_neg (by decide)]
 rw[if_pos (by decide+kernel)]
 refine LP (NY T ?_);refine LS ?_;rw[if_pos (by decide+kernel)]
 refine LP (O0 ?_);generalize hg:(s.heap.push {cls:=.type "list",data:=.seq ([]:List aC).toArray}).objs.size=I at hit;have H:I=s.heap.objs.size+1:=by rw[<-hg];exact M5 _ _
 have B:I≠a:=by rw[H];exact Nn (M3 Y)
 have O:I≠s.heap.objs.size:=by rw[H];exact PV _
 have f:s.heap.objs.size∉[I,a]:=by
  simp only[f_,fb,or_false,not_or];exact⟨kr O,Nn Y⟩
 have K:((s.heap.push {cls:=.type "list",data:=.seq ([]:List aC).toArray}).push R).get? s.heap.objs.size=ar {cls:=.type "list",data:=.seq ([]:List aC).toArray}:=LQ _ z;refine LP ?_;show eb _ A.in1 (updateSeq s.heap.objs.size (·.push .none)>>=fun _=>updateSeq s.heap.objs.size (·.pop)) _ _ _;refine LP (wpAny_updateSeq K rfl ?_);have P:=MS (nC (·.push hJ)) K rfl;refine wpAny_updateSeq P rfl ?_;have G:=MS (nC (·.pop)) P rfl;have S:∀b Z,b≠s.heap.objs.size->((s.heap.push {cls:=.type "list",data:=.seq ([]:List aC).toArray}).push R).get? b=ar Z->
   ((((s.heap.push {cls:=.type "list",data:=.seq ([]:List aC).toArray}).push R).update s.heap.objs.size (nC (·.push hJ))).update s.heap.objs.size (nC (·.pop))).get? b=ar Z:=
  fun b Z v e=>(MF _ _ (kr v)).trans ((MF _ _ (kr v)).trans e)
 have k2:=(k1.at (h':=(s.heap.push {cls:=.type "list",data:=.seq ([]:List aC).toArray}).push R) fun Z e=>LQ _ e);have J:A.in1.handled=none:=by simp[h]
 have W:=AC (prog:=prog) (w:=w) (A:=A.in1) (I:=I) (a:=a) (o:=o) (es:=es) (ep:=ep) (t:=t) (L:=L) J B;refine LS ⟨PK F.plain_extend_loop _,?_⟩;refine codeAny_extend_loopS W.toS (by rw[MT];omega) _ f _ es.size 0 _ _ _ rfl (Mg _) ⟨k2.at fun Z e=>S a Z (L7 Y) e,hit.at fun Z e=>S I Z O e⟩ G (ItemsOf.nil _) fun s' acc c hm y X=>?_
 show eb _ A (load s.heap.objs.size>>=_) _ _ s';refine LP (wpAny_load y ?_);refine LS ?_;obtain⟨h',g',d',C,x⟩:=s';have j:g'=s.gens:=hm.gens;have m:d'=s.drawn:=hm.drawn;have d:x=s.os:=hm.os;subst j m d;obtain⟨N,q,n⟩:=Co (sM w a ep es) L k.ents;have he:acc.toList=N.map fun p=>er p.2:=by
  have e1:acc.toList=(j5 w a ep es).toList.map (·.2):=by
   refine OJ fun i=>?_;rw[Mq,Mi,Mq];by_cases hi:i<acc.size
   ·obtain⟨e,e1,e2⟩:=X.2 i _ (L4 hi);rw[L4 hi,e2,e1];rfl
   ·rw[Nb (by omega),Nb (by rw[la, <-X.1];omega)];rfl
  rw[e1,n,My];rfl
 rw[he];refine r h' C N q fun b Z e=>hm.heap b Z ?_ (S b Z (L7 (LZ e)) (LQ _ (LQ _ e)));simp only[f_,fb,or_false,not_or];exact⟨L7 (LZ e),by rw[H];exact L7 (M3 (LZ e))⟩
end
end S4
namespace S4
open PySem PySem.Spec PySem.W PyProof.Rows L2 S3
section
variable {prog:ee}{w:eM}{A:gd}{E:aC->b_->Prop}{s:b_}
theorem xN{vs:List aC}{P:PySem.Fin->b_->Prop}(W:s.heap.get? a=ar (td "list" vs.toArray n))(Q:vs.length<2)
  (h:∀h' c,h'.get? a=ar (td "list" vs.toArray c)->(∀b o,b≠a->s.heap.get? b=ar o->h'.get? b=ar o)->P (.done (.ret .none)) {s with heap:=h'}):
  eb (e_ prog w) A (Builtin.«list.sort» ⟨[.ref a],[]⟩) P E s:=by
 have O:a<s.heap.objs.size:=LZ W;obtain⟨e1,X⟩:∃e1,(s.heap.update a (nC fun _=>(#[]:Array aC))).get? a=ar (td "list" #[] e1):=⟨_,get?_update_seq W fun _=> #[]⟩;have Z:(((s.heap.update a (nC fun _=>(#[]:Array aC))).push (td "tuple" vs.toArray 0)).push (td "list" #[] 0)).get? a=ar (td "list" #[] e1):=LQ _ (LQ _ X);rw[list_sort_plain];refine LP (listItems_at W rfl ?_);refine LP (listUpdate_at W rfl ?_ (by rw[L6,MT];omega) (Mg _))
 refine LP (seqEpoch_at X rfl ?_);refine LP (wpAny_newTuple ?_ (by show vs.length<=_;rw[MT];omega))
 refine LP (QF ?_ (Mg _));refine ME ?_;show eb (e_ prog w) A _ P E {s with heap:=((s.heap.update a (nC fun _=>(#[]:Array aC))).push (td "tuple" vs.toArray 0)).push (td "list" #[] 0)};dsimp only;have Y:vs.toArray.size<2:=by rw[L6];omega
 rw[if_pos Y,if_pos Y];refine LP (LS ?_);rw[StateT.run_pure];refine LP (LS ?_);dsimp only;refine LP (seqEpoch_at Z rfl ?_);have R:(arrOf (SortSt.mk' general' (vs.toArray.zip vs.toArray) #[] 7 none)).map (·.2)=vs.toArray:=by
  show(vs.toArray.zip vs.toArray).map (·.2)=vs.toArray;rw[Array.map_snd_zip (LU _)]
 rw[R];refine LP (listUpdate_at Z rfl ?_ (Mg _) (by rw[L6,MT];omega))
 obtain⟨U,T⟩:∃U,((((s.heap.update a (nC fun _=>(#[]:Array aC))).push (td "tuple" vs.toArray 0)).push (td "list" #[] 0)).update a (nC fun _=>vs.toArray)).get? a=ar (td "list" vs.toArray U):=⟨_,get?_update_seq Z fun _=>vs.toArray⟩;simp only[bne_self_eq_false,ey,if_false];refine LS (h _ U T fun b o S e=>?_);rw[NI _ _ _ _ S];refine LQ _ (LQ _ ?_);rw[NI _ _ _ _ S];exact e
end
section
variable {X:Cx}
structure TRow(H:Hp)(vs:List V)(nss:List (List Int)):Prop where
 len:vs.length=nss.length
 at':∀i,i<vs.length->∃a,vs[i]? =ar (.ref a)/\H a=ar (.tup ((nss.getD i []).map V.int))
 same:∃c,∀i,i<vs.length->(nss.getD i []).length=c+1
def iJ(nss:List (List Int))(q:List Nat):Prop:=q.Perm (ed nss.length)/\∀i j,i<=j->j<nss.length->HT.lexLt (nss.getD (q.getD j 0) []) (nss.getD (q.getD i 0) [])=c_
theorem j6{H:Hp}{Q:VK}(I:L2.Inv X pins σ H s)(Pv:List aC->Prop)
  (hc:∀(R:List aC->b_->Prop) (E':aC->b_->Prop),(∀vs Y N,Pv vs->(∀b o,s.heap.get? b=ar o->Y.get? b=ar o)->R vs {s with heap:=Y,toks:=N})->eb (e_ X.prog X.w) X.A.in1 (R8 arg) R E' s)
  (r:∀us,Pv us->∃(vs:List V) (Z:List (List Int)),bh vs us/\TRow H vs Z/\vs.length<64/\∀q,iJ Z q->∀l,H l=none->Q (.ref l) (upd H l (.lst (q.map fun i=>vs.getD i .non)))):
  eb (e_ X.prog X.w) X.A (call (.builtin "sorted") [arg]) (EP X pins σ Q) X.xe s:=by
 refine Pk kind_sorted plain_sorted entry_sorted (args_sorted1 _) ?_;unfold Builtin.«sorted»;refine LP (m:=checkCount "sorted" 1 1 _) (LS ?_);refine LP (hc _ _ fun its Y N hP keep=>?_);obtain⟨vs,Z,d,T0,d3,q⟩:=r its hP;have b3:=d.length;have P:L2.Inv X pins σ H {s with heap:=Y,toks:=N}:=I.kept keep;obtain⟨m,F⟩:=P.fr;refine LP (QF ?_ (by rw[MT];omega))
 have O:(Y.push (td "list" its.toArray 0)).get? Y.objs.size=ar (td "list" its.toArray 0):=L3 _ rfl;have up:∀b o,Y.get? b=ar o->(Y.push (td "list" its.toArray 0)).get? b=ar o:=fun b o e=>LQ _ e;have nd:Y.get? Y.objs.size=none:=MV (LU _);have hL:X.env.locals<Y.objs.size:=F.ns.lt;have hH:H Y.objs.size=none:=P.hok.fresh (LU _);have at':∀i,i<its.length->∃a,its[i]? =ar (.ref a)/\its.getD i hJ= .ref a/\H a=ar (.tup ((Z.getD i []).map V.int)):=fun i hi=>by
  obtain⟨a,e1,e2⟩:=T0.at' i (by omega)
  obtain⟨u,hu,ru⟩:=d.get e1;cases (show u=er a from ru);exact⟨a,hu,by rw[LY,hu];rfl,e2⟩
 have a5:∀l:List Nat,(∀x∈l,x<its.length)->bh (l.map fun i=>vs.getD i .non) (l.map fun i=>its.getD i hJ):=by
  intro l
  induction l with
  |nil=>intro _;exact .nil
  |cons x l ih=>
   intro hx;refine .cons ?_ (ih fun y hy=>hx y (L5 _ hy));have B:x<vs.length:=by have:=hx x Md;omega
   obtain⟨u,hu,ru⟩:=d.get (LV B);show L2.RelV (vs.getD x .non) (its.getD x hJ);rw[LY,LY,hu,LV B];exact ru
 show eb _ _ _ _ _ {s with heap:=Y.push (td "list" its.toArray 0),toks:=N};refine LP (ME (ML slot_list_sort ⟨_,O,rfl⟩ entry_list_sort ?body (args_list_sort _)))
 case body=>
  by_cases K:its.length<2
  ·refine xN (s:={s with heap:=Y.push (td "list" its.toArray 0),toks:=N}) O K fun h' c g1 g2=>?_;refine⟨_,rfl,LS ⟨_,rfl,?_⟩⟩;have I2:L2.Inv X pins σ (upd H Y.objs.size (.lst vs)) {s with heap:=h',toks:=N}:=P.laid (fun b o e=>g2 b o (L7 (LZ e)) (up b o e)) (LU _) ⟨by rw[MT];omega,its,c,d,g1⟩
   refine⟨.ref Y.objs.size,_,I2,rfl,?_⟩;have:=q (ed Z.length) ⟨.refl _,fun i j G hj=>?_⟩ _ hH
   ·have e:(ed Z.length).map (fun i=>vs.getD i .non)=vs:=by
     refine OJ fun i=>?_;rw[Mi, <-T0.len];by_cases hi:i<vs.length
     ·rw[Oi hi,LV hi];simp[m1,hi]
     ·rw[MX (by simpa using hi),MX (by omega)];rfl
    rw[e]at this;exact this
   ·have:i=j:=by have:=T0.len;omega
    subst this;exact k9 _
  ·obtain⟨c,b2⟩:=T0.same;refine kat_list_sort (s:={s with heap:=Y.push (td "list" its.toArray 0),toks:=N}) (F.kept up) (News.grown (pT (g:=X.base) (h:=Y) (L:=X.env.locals)) up) O (Nn hL) (MV (Ma F.above (Nu hL)))
    (fun p hp=>L7 (LZ (pT p hp).1)) (by omega) (by omega) fun e1 h' F' N'=>?_
   have U:∀K:fg,Fr X.base X.env.locals K m->News X.base X.env.locals K (my X.base Y X.env.locals)->∀b o,b≠X.env.locals->Y.get? b=ar o->K.get? b=ar o:=fun K F2 N2 b o hb e=>by
    cases z:X.base.get? b with
    |some o'=>
     have:=P.bk b o' z;rw[show Y.get? b=ar o' from this]at e;cases e;exact F2.keep b _ z
    |none=>exact(N2 (b,o) (vp hb z e)).1
   have kp:=U h' F' fun z S=>N' z (L5 _ S);have T:Tups Y its Z c:=⟨by have:=T0.len;omega,fun i hi=>by
    obtain⟨a,_,e1,e2⟩:=at' i hi;obtain⟨_,ws,f,o,ho,c0,n,hd⟩:=(show bo X.prog X.w H Y a (.tup ((Z.getD i []).map V.int))from P.hok a _ e2);refine⟨a,o,ws.toArray,n,e1,ho,c0,hd,by simpa using O1 f,?_⟩
    rw[L6, <-f.length,LR,b2 i (by omega)]⟩
   have T':Tups h' its Z c:=T.keep fun i a o hi ea ho=>by
    obtain⟨a',_,e1,e2⟩:=at' i hi;rw[ea]at e1;cases e1;refine kp a o (fun z=>?_) ho;rw[z,P.free]at e2;cases e2
   obtain⟨fs,k1,k2,k3⟩:=qj (h:=h') (vs:=its) fun v r=>by
    obtain⟨i,hi,ei⟩:=OV.mp r;obtain⟨a,o,us,n,f1,f2,f3,f4,f5,f6⟩:=T'.get i hi;have ev:v= .ref a:=by
     rw[LY,LV hi,ei]at f1;exact f1
    generalize Z.getD i []=ns at f5;cases hus:us.toList with
    |nil=>
     have:us.size=0:=by rw[<-NG,hus];rfl
     omega
    |cons x r'=>
     rw[hus]at f5;cases f5 with
     |cons n' t' _=>exact⟨a,o,us,n,n',t',ev,f2,f3,f4,by rw[<-Mq,hus];rfl⟩
   refine kat_kind k1 (by omega) (T:=.type "int") (fun v r=>by obtain⟨i,t,rfl⟩:=k3 v r;exact Looks.of_pure rfl) rfl ?_
   refine BH (n:=its.length) (R:=In its.length) (b:=fun i j=>HT.lexLt (Z.getD i []) (Z.getD j [])) (fun i j C hi hj hC=>T'.ask hi hj hC) (vy (by omega)) ?_
   obtain⟨s1,s2⟩:=Ef (n:=its.length) (b:=fun i j=>HT.lexLt (Z.getD i []) (Z.getD j [])) (by omega) (fun i _=>k9 _) (fun i j k _ _ _=>xF) (fun i j k _ _ _=>uq)
   generalize bu (fun i j=>HT.lexLt (Z.getD i []) (Z.getD j [])) (u_ its.length)=pp at s1 s2;have W:pp.toList.Perm (ed its.length):=by simpa using Array.Perm.toList s1
   refine KasFin.intro F' N' (.head fun z S=>L7 (LZ (pT z S).1)) fun b1 c' J E=>?_;have a4:=U b1 J fun z S=>E z (L5 _ S);obtain⟨g1,g2,g3⟩:=E _ Md;have b5:∀x∈pp.toList,x<its.length:=fun x hx=>L9.mp (W.mem_iff.mp hx);have c2:(pp.toList.map fun i=>vs.getD i .non).length<=sizeLine:=by
    rw[LR,W.length_eq,Ms,MT];omega
   have I2:=xG P F J a4 nd g1 (a5 pp.toList b5) c2;refine⟨_,rfl,LS ⟨_,rfl,.ref Y.objs.size,_,I2,rfl,q pp.toList ⟨by rw[<-T0.len,b3];exact W,fun i j G hj=>?_⟩ _ hH⟩⟩
   have:=s2 i j G (by have:=T0.len;omega)
   rw[MD,MD]at this;rw[LY (l:=pp.toList),LY (l:=pp.toList),Mq,Mq];exact this
end
end S4
namespace S3
open PySem PySem.Spec PySem.W PyProof.Rows L2 S4
def tupI(ns:List Int):D:=.tup (ns.map D.int)
def rowsOf:List D->Option (List (List Int))
 |[]=>ar []
 | .tup ds::r=>match intsOf ds,rowsOf r with
  |some ns,ar nss=>ar (ns::nss)
  |_,_=>none
 |_=>none
theorem pL:∀{a b:List Int},HT.lexLt a b=c_->HT.lexLt b a=c_->a=b
 |[],[],_,_=>rfl
 |[],_::_,h,_=>by cases h
 |_::_,[],_,h=>by cases h
 | x::a,y::b,h1,h2=>by
  rw[HT.lexLt_cons]at h1 h2;by_cases e:x=y
  ·subst e;rw[if_pos rfl]at h1 h2;rw[pL h1 h2]
  ·rw[if_neg e]at h1;rw[if_neg (kr e)]at h2;have:=of_decide_eq_false h1;have:=of_decide_eq_false h2;omega
abbrev DS(a b:List Int):Prop:=HT.lexLt b a=c_
def xO(x:List Int):List (List Int)->List (List Int)
 |[]=>[x]
 |y::r=>if HT.lexLt y x=bc then y::xO x r else x::y::r
def eN:List (List Int)->List (List Int)
 |[]=>[]
 |x::r=>xO x (eN r)
theorem nR(x:List Int):∀l,(xO x l).Perm (x::l)
 |[]=>.refl _
 |y::r=>by
  unfold xO;split
  ·exact((nR x r).cons y).trans (.swap _ _ _)
  ·exact .refl _
theorem cu:∀l,(eN l).Perm l
 |[]=>.refl _
 |x::r=>(nR x _).trans ((cu r).cons x)
theorem AD(Y:DS a b)(Z:DS b c):DS a c:=by
 cases q:HT.lexLt c a with
 |false=>exact q
 |true=>
  rcases uq (b:=b) q with z|z
  ·rw[show HT.lexLt c b=c_ from Z]at z;cases z
  ·rw[show HT.lexLt b a=c_ from Y]at z;cases z
theorem vP(h:HT.lexLt a b=bc):HT.lexLt b a=false:=by
 cases q:HT.lexLt b a with
 |false=>rfl
 |true=>
  have:=xF h q;rw[k9]at this;cases this
theorem oG(x:List Int):∀{l:List (List Int)},l.Pairwise DS->(xO x l).Pairwise DS
 |[],_=>by simp[xO]
 | y::r,h=>by
  obtain⟨X,W⟩:=MR.mp h;unfold xO;split
  ·next c=>
   refine MR.mpr ⟨fun z Z=>?_,oG x W⟩;rcases Me.mp ((nR x r).mem_iff.mp Z)with rfl|Z
   ·exact vP c
   ·exact X z Z
  ·next c=>
   have Y:DS x y:=Pz.mpr c;refine MR.mpr ⟨fun z Z=>?_,h⟩;rcases Me.mp Z with rfl|Z
   ·exact Y
   ·exact AD Y (X z Z)
theorem dR:∀l,(eN l).Pairwise DS
 |[]=>.nil
 |x::r=>oG x (dR r)
theorem nS{l:List (List Int)}(h:l.Perm l')(Y:l.Pairwise DS)(Z:l'.Pairwise DS):l=l':=
 On (le:=DS) (fun a b _ _ x y=>pL y x) Y Z h
theorem qy(h:iJ nss q):q.map (fun i=>nss.getD i [])=eN nss:=by
 have hlen:q.length=nss.length:=by simpa using h.1.length_eq
 have e:(ed nss.length).map (fun i=>nss.getD i [])=nss:=by
  refine OJ fun i=>?_;rw[Mi];by_cases hi:i<nss.length
  ·rw[Oi hi,LV hi];simp[m1,hi]
  ·rw[MX (by simpa using hi),MX (by omega)];rfl
 have X:(q.map (fun i=>nss.getD i [])).Perm nss:=by
  have:=h.1.map (fun i=>nss.getD i []);rw[e]at this;exact this
 refine nS (X.trans (cu nss).symm) ?_ (dR _);rw[Pj];intro i j hi Y Z;rw[LR]at hi Y;rw[List.getElem_map,List.getElem_map];have:=h.2 i j (Nu Z) (by omega)
 rw[LY (l:=q),LY (l:=q),LV hi,LV Y]at this;exact this
def gJ:List (List Int)->List (List Int)
 |[]=>[]
 |x::r=>if x∈gJ r then gJ r else x::gJ r
theorem jA:∀{l:List (List Int)},y∈gJ l↔y∈l
 |[]=>.rfl
 | x::r=>by
  unfold gJ;split
  ·next h=>
   rw[jA,Me];refine⟨.inr,fun z=>z.elim (fun z=>?_) id⟩;rw[z];exact jA.mp h
  ·rw[Me,Me,jA]
theorem m3:∀l:List (List Int),(gJ l).Nodup
 |[]=>.nil
 |x::r=>by
  unfold gJ;split
  ·exact m3 r
  ·next h=>exact MM.mpr ⟨h,m3 r⟩
def fF(l:List (List Int)):List (List Int):=eN (gJ l)
theorem Cq(f:Folded kv L):eN (L.map (·.1))=fF (kv.map (·.1)):=by
 unfold fF;have Z:(L.map (·.1)).Perm (gJ (kv.map (·.1))):=(Pa f.nd (m3 _)).mpr fun a=>by rw[f.mem,jA]
 exact nS ((cu _).trans (Z.trans (cu _).symm)) (dR _) (dR _)
theorem _root_.S4.Folded.perm{Z:List KA}(f:Folded kv L)(h:Z.Perm L):Folded kv Z:=
 ⟨(NH (h.map (fun p:KA=>p.1))).mpr f.nd,fun k=>by rw[(h.map (fun p:KA=>p.1)).mem_iff];exact f.mem k,fun p Y=>f.sub p (h.mem_iff.mp Y),by rw[h.length_eq];exact f.len⟩
section
variable {K:dV}{ι:List dt}{H:Hp}
theorem qz:∀{ds:List D} {vs:List V} {nss:List (List Int)},RelDs K ι H ds vs->rowsOf ds=ar nss->vs.length=nss.length/\∀i,i<vs.length->∃a,vs[i]? =ar (.ref a)/\H a=ar (.tup ((nss.getD i []).map V.int))
 |[],vs,nss,h,e=>by
  cases e;rw[h.nil_inv];exact⟨rfl,fun i hi=>absurd hi (P0 _)⟩
 | .tup ds::r,vs,nss,h,e=>by
  obtain⟨v,ws,rfl,Y,U⟩:=h.cons_inv;unfold rowsOf at e;cases q:intsOf ds with
  |none=>rw[q]at e;cases e
  | some ns=>
   rw[q]at e;cases q2:rowsOf r with
   |none=>rw[q2]at e;cases e
   | some nss'=>
    rw[q2]at e;cases e;obtain⟨X,Z⟩:=qz U q2;obtain⟨a,us,rfl,g1,g2⟩:=Y.tup_inv;refine⟨by simp[X],fun i hi=>?_⟩
    cases i with
    |zero=>
     refine⟨a,rfl,?_⟩;rw[gI g2 q]at g1;simpa using g1
    |succ i=>
     obtain⟨T,e1,e2⟩:=Z i (by simpa using hi)
     exact⟨T,by simpa using e1,by simpa using e2⟩
 | .non::_,_,_,_,e=>by cases e
 | .bl _::_,_,_,_,e=>by cases e
 | .int _::_,_,_,_,e=>by cases e
 | .str _::_,_,_,_,e=>by cases e
 | .lst _::_,_,_,_,e=>by cases e
 | .ro _::_,_,_,_,e=>by cases e
 | .fz _::_,_,_,_,e=>by cases e
 | .emp::_,_,_,_,e=>by cases e
theorem sO:∀ns:List Int,RelDs K ι H (ns.map D.int) (ns.map V.int)
 |[]=>.nil
 |n::r=>.cons (.int n) (sO r)
theorem qA{vs:List V}{Z:List (List Int)}(h:∀i,i<vs.length->∃a,vs[i]? =ar (.ref a)/\H a=ar (.tup ((Z.getD i []).map V.int))):
  ∀q:List Nat,(∀i∈q,i<vs.length)->RelDs K ι H ((q.map fun i=>Z.getD i []).map tupI) (q.map fun i=>vs.getD i .non)
 |[],_=>.nil
 |i::q,hq=>by
  obtain⟨a,e1,e2⟩:=h i (hq i Md);refine .cons ?_ (qA h q fun j Y=>hq j (L5 _ Y));show RelD K ι H (tupI (Z.getD i [])) (vs.getD i .non);have e3:vs.getD i .non= .ref a:=by rw[LY,e1];rfl
  rw[e3];exact .tup e2 (sO _)
end
section
variable {X:Cx}{E:XD}{e:Expr}{m:TM}{pos:Pos}
theorem rV:dX X (.builtin "sorted") (fun xs H Q=>∃(p:dt) (vs:List V) (Z:List (List Int)),xs=[.ref p]/\kg X.K H p vs/\TRow H vs Z/\vs.length<64/\
  ∀q,iJ Z q->∀l,H l=none->Q (.ref l) (upd H l (.lst (q.map fun i=>vs.getD i .non)))):=by
 intro pins s σ H xs us Q I r h;obtain⟨p,vs,Z,rfl,L,T,W,q⟩:=h;obtain⟨u,rfl,O⟩:=vals1 r;cases (show u=er p from O);obtain⟨its,U,S,G⟩:=I.list L;have J:=U.length;refine j6 I (fun us=>us=its) (fun R E' P=>?_) fun us N=>⟨vs,Z,by rw[N];exact U,T,W,q⟩
 refine collect_list S.isList (P its _ _ rfl fun b o e=>?_) (by rw[MT];omega)
 have Y:b<s.heap.objs.size:=LZ e;rw[NI _ _ _ _ (L7 Y)];exact LQ _ e
def o8(P:ee)(w:eM)(a:dt)(kv:List KA):fg->Prop:=fun h=>∃o es ep t L,SetAt P w h a o es ep t L/\Folded kv L
def ma(vs:List V)(nss:List (List Int)):List KA:=(ed vs.length).map fun i=>(nss.getD i [],match vs.getD i .non with| .ref a=>a|_=>0)
theorem Hn{H:Hp}(U:gR P w H h){ns:List Int}(e:H a=ar (.tup (ns.map V.int))):lz (n_ P w) h ns a:=by
 obtain⟨_,ws,Z,o,W,Y,n,hd⟩:=(show bo P w H h a (.tup (ns.map V.int))from U a _ e);refine⟨o,ws.toArray,n,W,Y,hd,?_⟩;have T:=O1 Z;have go:∀{ws:List aC} {ns:List Int},oD ws ns->ItemsAre (n_ P w) ns ws:=by
  intro ws ns h
  induction h with
  |nil=>exact .nil
  |cons n t _ ih=>exact .cons (intKind_is _ _ _ _) ih
 simpa using go T
theorem AE(B:X.calm=bc)(g:X.A.units+8<u4):dX X (.type "set") (fun xs H Q=>∃(p:dt) (vs:List V) (Z:List (List Int)),xs=[.ref p]/\(kg X.K H p vs\/lD X.K H p vs)/\
  (∀i,i<vs.length->∃a,vs[i]? =ar (.ref a)/\H a=ar (.tup ((Z.getD i []).map V.int)))/\vs.length<=18/\∀l,H l=none->Q (.ref l) (upd H l (.ext (o8 X.prog X.w l (ma vs Z))))):=by
 intro pins s σ H xs us Q I r h;obtain⟨p,vs,Z,rfl,W,T,J,q⟩:=h;obtain⟨u,rfl,y⟩:=vals1 r;cases (show u=er p from y);have src:∃its,bh vs its/\Src s.heap p its.toArray:=by
  rcases W with W|W
  ·obtain⟨its,Y,S,z⟩:=I.list W;exact⟨its,Y,.inl S.isList⟩
  ·obtain⟨its,Y,S,z⟩:=I.tuple W;exact⟨its,Y,.inr S⟩
 obtain⟨its,Y,hs⟩:=src;have U:=Y.length;have x:∀A:gd,A.in1.units<=A.units+1:=fun A=>LU _;have at':∀i,i<vs.length->∃a,its[i]? =ar (.ref a)/\vs.getD i .non= .ref a/\H a=ar (.tup ((Z.getD i []).map V.int)):=fun i hi=>by
  obtain⟨a,e1,e2⟩:=T i hi;obtain⟨u,P,F⟩:=Y.get e1;cases (show u=er a from F);exact⟨a,P,by rw[LY,e1];rfl,e2⟩
 have hf:H s.heap.objs.size=none:=I.hok.fresh (LU _);refine Hm (I.ok.hd B) (by show X.A.units+3<u4;omega) hs (fun i=>(Z.getD i [],match vs.getD i .non with| .ref a=>a|_=>0)) (fun i v R=>?_) (by rw[L6];omega) (fun j G=>?_) fun h' n o es ep t L O N C=>?_
 ·have hi:i<vs.length:=by rw[U];simpa using(Mm.mp R).1
  obtain⟨a,e1,e2,_⟩:=at' i hi;rw[Nw,e1]at R;cases R;simp only[e2]
 ·rw[L6]at G;obtain⟨a,e1,e2,e3⟩:=at' j (by omega)
  simp only[e2];exact Hn I.hok e3
 ·rw[L6, <-U]at N;refine⟨.ref s.heap.objs.size,_,I.laid (o:=.ext (o8 X.prog X.w s.heap.objs.size (ma vs Z))) (fun b o e=>C b o (LZ e) e) (LU _) ⟨⟨o,es,ep,t,L,O,N⟩,⟨o,O.get⟩,fun h1 h2 ⟨o,es,ep,t,L,a1,a2⟩ k=>⟨o,es,ep,t,L,a1.at k,a2⟩⟩,rfl,q _ hf⟩
theorem uy(C:X.calm=bc):dX X (.builtin "sorted") (fun xs H Q=>∃(p:dt) (U:List KA),xs=[.ref p]/\H p=ar (.ext (o8 X.prog X.w p U))/\(∀k∈U,H k.2=ar (.tup (k.1.map V.int))/\k.1.length=2)/\U.length<=18/\
  ∀L q,Folded U L->iJ (L.map (·.1)) q->∀l,H l=none->Q (.ref l) (upd H l (.lst (q.map fun i=>(L.map fun k=>V.ref k.2).getD i .non)))):=by
 intro pins s σ H xs us Q I r h;obtain⟨p,U,rfl,x,S,J,q⟩:=h;obtain⟨u,rfl,y⟩:=vals1 r;cases (show u=er p from y);obtain⟨⟨o,es,ep,t,L,P,O⟩,_,_⟩:=(show bo X.prog X.w H s.heap p (.ext (o8 X.prog X.w p U))from I.hok p _ x);have N:=O.len;have T:∀l:List KA,bh (l.map fun k=>V.ref k.2) (l.map fun k=>er k.2):=by
  intro l
  induction l with
  |nil=>exact .nil
  |cons k l ih=>exact .cons rfl ih
 refine j6 I (fun us=>∃Z:List KA,Z.Perm L/\us=Z.map fun k=>er k.2) (fun R E' G=>?_) ?_
 ·refine vO (by show X.A.handled=none;exact I.ok.hd C) P (by rw[P.len];omega) fun h' n Z W F=>G _ _ _ ⟨Z,W,rfl⟩ F
 ·rintro us ⟨Z,W,rfl⟩;have Y:=O.perm W;have v:=Y.len;refine⟨Z.map fun k=>V.ref k.2,Z.map (·.1),T Z,⟨by simp,fun i hi=>?_,1,fun i hi=>?_⟩,by simp;omega,fun z B l K=>q Z z Y B l K⟩
  ·rw[LR]at hi;refine⟨Z[i].2,by rw[Mi,LV hi];rfl,?_⟩
   have:=(S _ (Y.sub _ (M1 hi))).1;rw[LY,Mi,LV hi];exact this
  ·rw[LR]at hi;rw[LY,Mi,LV hi];exact(S _ (Y.sub _ (M1 hi))).2
def two(nss:List (List Int)):Bool:=nss.all fun ns=>ns.length==2
def vQ(nss:List (List Int)):M D:=if nss.length<64/\two nss=bc then bJ ((eN nss).map tupI)else M.fail
def m4(xs:List D):M D:=match intsOf xs with
 |some ns=>if ns.length<64 then bJ ((sortI ns).map D.int)else M.fail
 |none=>match rowsOf xs with
  |some nss=>vQ nss
  |none=>M.fail
def bZ:List D->M D
 |[.lst k]=>do
  let xs<-getL k
  m4 xs
 |[.fz xs]=>m4 xs
 |_=>M.fail
theorem EB{H:Hp}{vs:List V}{Z:List (List Int)}(h:vs.length=Z.length/\∀i,i<vs.length->∃a,vs[i]? =ar (.ref a)/\H a=ar (.tup ((Z.getD i []).map V.int)))(W:two Z=bc):TRow H vs Z:=
 ⟨h.1,h.2,1,fun i hi=>by
  have Y:i<Z.length:=by rw[<-h.1];exact hi
  have:=Mf.mp W Z[i] (M1 Y);rw[LY,LV Y];simpa using this⟩
theorem uz:lF X.K E bZ (fun xs H Q=>(∃(p:dt) (ns:List Int),xs=[.ref p]/\kg X.K H p (ns.map V.int)/\ns.length<64/\∀l,H l=none->Q (.ref l) (upd H l (.lst ((sortI ns).map V.int))))\/
  ∃(p:dt) (vs:List V) (nss:List (List Int)),xs=[.ref p]/\kg X.K H p vs/\TRow H vs nss/\vs.length<64/\∀q,iJ nss q->∀l,H l=none->Q (.ref l) (upd H l (.lst (q.map fun i=>vs.getD i .non)))):=by
 intro ι S H ds vs Q rep r c;have fin:∀{es:List D} {us:List V} {p:dt},RelDs X.K ι H es us->Rd H p (.lst us)->cont X.K E (m4 es) ι S H (kT X.K Q)->vs=[.ref p]->
   (∃(p:dt) (ns:List Int),vs=[.ref p]/\kg X.K H p (ns.map V.int)/\ns.length<64/\∀l,H l=none->Q (.ref l) (upd H l (.lst ((sortI ns).map V.int))))\/
  ∃(p:dt) (ws:List V) (nss:List (List Int)),vs=[.ref p]/\kg X.K H p ws/\TRow H ws nss/\ws.length<64/\∀q,iJ nss q->∀l,H l=none->Q (.ref l) (upd H l (.lst (q.map fun i=>ws.getD i .non))):=by
  intro es us p W T Z U;unfold m4 at Z;cases q:intsOf es with
  | some ns=>
   rw[q]at Z;have Y:cont X.K E (if ns.length<64 then bJ ((sortI ns).map D.int)else M.fail) ι S H (kT X.K Q):=Z;by_cases h:ns.length<64
   ·rw[if_pos h]at Y;exact .inl ⟨p,ns,U,.inl (by rw[<-gI W q];exact T),h,(bD Y rep (mW _)).2⟩
   ·rw[if_neg h]at Y;exact(ah Y).elim
  | none=>
   rw[q]at Z;cases q2:rowsOf es with
   |none=>rw[q2]at Z;exact(ah Z).elim
   | some nss=>
    rw[q2]at Z;have Y:cont X.K E (if nss.length<64/\two nss=bc then bJ ((eN nss).map tupI)else M.fail) ι S H (kT X.K Q):=Z;by_cases h:nss.length<64/\two nss=bc
    ·rw[if_pos h]at Y;obtain⟨g1,g2⟩:=qz W q2;refine .inr ⟨p,us,nss,U,.inl T,EB ⟨g1,g2⟩ h.2,by omega,fun N J l I=>?_⟩
     have R:∀i∈N,i<us.length:=fun i hi=>by rw[g1];exact L9.mp (J.1.mem_iff.mp hi)
     have G:RelDs X.K ι H ((eN nss).map tupI) (N.map fun i=>us.getD i .non):=by
      rw[<-qy J];exact qA g2 N R
     exact(bD Y rep G).2 l I
    ·rw[if_neg h]at Y;exact(ah Y).elim
 unfold bZ at c;split at c
 ·next k=>
  obtain⟨v,ws,rfl,L,P⟩:=r.cons_inv;cases P.nil_inv;obtain⟨p,rfl,O⟩:=L.lst_inv;obtain⟨es,us,_,T,W,Z⟩:=bC c rep O;exact fin W (.inl T) Z rfl
 ·next es=>
  obtain⟨v,ws,rfl,L,P⟩:=r.cons_inv;cases P.nil_inv;obtain⟨p,o,us,rfl,O,W⟩:=L.fz_inv;exact fin W (.inr ⟨o,O⟩) c rfl
 ·exact(ah c).elim
theorem iE(Y:X.mg "sorted"=none)(W:SE X E e m)(Z:Gl X "sorted":=by rfl)(hs:d_ [e] X.env=[(c_,gg e X.env)]:=by rfl):SE X E (.Call (.Name "sorted" p) [e] [] pos) (fun ρ=>do let ds<-(do let x<-m ρ;let xs<-a_ [];a_ (x::xs));bZ ds):=
 jx (dX.or uo rV) uz Z Y (by decide+kernel) (af W ai hs) (by decide) (by decide) hs rfl
def dO(nss:List (List Int)):M D:=if nss.length<=18/\two nss=bc then bJ ((fF nss).map tupI)else M.fail
def iK:List D->M D
 |[.lst k]=>do
  let xs<-getL k
  match rowsOf xs with
  |some nss=>dO nss
  |none=>M.fail
 |[.tup xs]=>match rowsOf xs with
  |some nss=>dO nss
  |none=>M.fail
 |[.fz xs]=>match rowsOf xs with
  |some nss=>dO nss
  |none=>M.fail
 |_=>M.fail
theorem EC{vs:List V}{Z:List (List Int)}(h:vs.length=Z.length):(ma vs Z).map (·.1)=Z:=by
 unfold ma;rw[My];refine OJ fun i=>?_;rw[Mi,h];by_cases hi:i<Z.length
 ·rw[Oi hi,LV hi];simp[m1,hi]
 ·rw[MX (by simpa using hi),MX (by omega)];rfl
theorem Jz{K:dV}{ι:List dt}{H:Hp}{L:List KA}(h:∀k∈L,H k.2=ar (.tup (k.1.map V.int))):∀q:List Nat,(∀i∈q,i<L.length)->RelDs K ι H ((q.map fun i=>(L.map (·.1)).getD i []).map tupI) (q.map fun i=>(L.map fun k=>V.ref k.2).getD i .non):=by
 intro q Z;refine qA (fun i hi=>?_) q fun i hi=>by rw[LR];exact Z i hi
 rw[LR]at hi;refine⟨L[i].2,by rw[Mi,LV hi];rfl,?_⟩
 rw[LY,Mi,LV hi];exact h _ (M1 hi)
theorem uA{p q R:Pos}(hc:X.calm=bc)(hu:X.A.units+8<u4)(hm:X.mg "sorted"=none)(s:X.mg "set"=none)(ha:SE X E e m)(hg:Gl X "sorted":=by rfl)(d:Gl X "set":=by rfl)(hs:d_ [e] X.env=[(c_,gg e X.env)]:=by rfl)
  (N:d_ [.Call (.Name "set" q) [e] [] R] X.env=[(c_,gg (.Call (.Name "set" q) [e] [] R) X.env)]:=by rfl):
  SE X E (.Call (.Name "sorted" p) [.Call (.Name "set" q) [e] [] R] [] pos) (fun ρ=>do let ds<-(do let x<-m ρ;let xs<-a_ [];a_ (x::xs));iK ds):=by
 refine PE.imp (ki (uy hc) hg hm (by decide+kernel) (fM (kS (AE hc hu) d s (by decide+kernel) (af ha ai hs) (by decide) (by decide) hs rfl) kh N) (by decide) (by decide) N rfl) fun σ H Q h=>?_
 obtain⟨ι,S,ρ,rep,re,c⟩:=h;refine⟨ι,S,ρ,rep,re,az (aq c) fun ds T S1 Y e1 rep1 U vs r=>?_⟩;have fin:∀{xs:List D} {us:List V} {a:dt} {Z:List (List Int)},RelDs X.K T Y xs us->rowsOf xs=ar Z->(kg X.K Y a us\/lD X.K Y a us)->cont X.K E (dO Z) T S1 Y (kT X.K Q)->vs=[.ref a]->
   ∃ (p:dt) (vs':List V) (Z:List (List Int)),vs=[.ref p]/\(kg X.K Y p vs'\/lD X.K Y p vs')/\
    (∀i,i<vs'.length->∃a,vs'[i]? =ar (.ref a)/\Y a=ar (.tup ((Z.getD i []).map V.int)))/\vs'.length<=18/\∀l,Y l=none->
     ∃(p:dt) (kv:List KA),[V.ref l]=[.ref p]/\upd Y l (.ext (o8 X.prog X.w l (ma vs' Z))) p=ar (.ext (o8 X.prog X.w p kv))/\(∀k∈kv,upd Y l (.ext (o8 X.prog X.w l (ma vs' Z))) k.2=ar (.tup (k.1.map V.int))/\k.1.length=2)/\kv.length<=18/\
      ∀L q,Folded kv L->iJ (L.map (·.1)) q->∀y,upd Y l (.ext (o8 X.prog X.w l (ma vs' Z))) y=none->Q (.ref y) (upd (upd Y l (.ext (o8 X.prog X.w l (ma vs' Z)))) y (.lst (q.map fun i=>(L.map fun k=>V.ref k.2).getD i .non))):=by
  intro xs us a Z P W n z g;unfold dO at z;by_cases h:Z.length<=18/\two Z=bc
  ·rw[if_pos h]at z;obtain⟨g1,g2⟩:=qz P W;refine⟨a,us,Z,g,n,g2,by omega,fun l u=>⟨l,ma us Z,rfl,aV,fun k O=>?_,by unfold ma;simp;omega,fun L qq hF hq y j=>?_⟩⟩
   ·unfold ma at O;obtain⟨i,hi,rfl⟩:=Mp.mp O;rw[L9]at hi;obtain⟨b,b1,G⟩:=g2 i hi;have b3:us.getD i .non= .ref b:=by rw[LY,b1];rfl
    simp only[b3];refine⟨by rw[aI (aR G u)];exact G,?_⟩
    have J:i<Z.length:=by omega
    have:=Mf.mp h.2 Z[i] (M1 J);rw[LY,LV J];simpa using this
   ·have hE:Ext T Y T (upd Y l (.ext (o8 X.prog X.w l (ma us Z)))):=fi u;have rep2:=gf (o:=.ext (o8 X.prog X.w l (ma us Z))) rep1 u;have f:∀i∈qq,i<L.length:=fun i hi=>by
     have:=L9.mp (hq.1.mem_iff.mp hi);simpa using this
    have O:∀k∈L,upd Y l (.ext (o8 X.prog X.w l (ma us Z))) k.2=ar (.tup (k.1.map V.int)):=fun k O=>by
     have F:=hF.sub k O;unfold ma at F;obtain⟨i,hi,rfl⟩:=Mp.mp F;rw[L9]at hi;obtain⟨b,b1,G⟩:=g2 i hi;have b3:us.getD i .non= .ref b:=by rw[LY,b1];rfl
     simp only[b3];rw[aI (aR G u)];exact G
    have rr:=Jz (K:=X.K) (ι:=T) O qq f;rw[qy hq,Cq hF,EC g1]at rr;exact(bD (iG z hE) rep2 rr).2 y j
  ·rw[if_neg h]at z;exact(ah z).elim
 unfold iK at U;split at U
 ·next k=>
  obtain⟨v,ws,rfl,I,C⟩:=r.cons_inv;cases C.nil_inv;obtain⟨a,rfl,B⟩:=I.lst_inv;obtain⟨es,us,_,hv,P,t⟩:=bC U rep1 B;cases W:rowsOf es with
  |none=>rw[W]at t;exact(ah t).elim
  |some Z=>
   rw[W]at t;exact fin P W (.inl (.of hv)) t rfl
 ·next xs=>
  obtain⟨v,ws,rfl,I,C⟩:=r.cons_inv;cases C.nil_inv;obtain⟨a,us,rfl,B,P⟩:=I.tup_inv;cases W:rowsOf xs with
  |none=>rw[W]at U;exact(ah U).elim
  |some Z=>
   rw[W]at U;exact fin P W (.inr (.of B)) U rfl
 ·next xs=>
  obtain⟨v,ws,rfl,I,C⟩:=r.cons_inv;cases C.nil_inv;obtain⟨a,o,us,rfl,B,P⟩:=I.fz_inv;cases W:rowsOf xs with
  |none=>rw[W]at U;exact(ah U).elim
  |some Z=>
   rw[W]at U;exact fin P W (.inl (.inl (.inr ⟨o,B⟩))) U rfl
 ·exact(ah U).elim
end
end S3
namespace S4
open PySem PySem.Spec PyProof.Rows L2 S3
section
variable {prog:ee}{w:eM}{A:gd}{E:aC->b_->Prop}{s:b_}
theorem jM{Q:aC->b_->Prop}(Z:s.heap.IsTupleIter it t i)(R:s.heap.IsTuple t items)(T:items[i]? =ar x)
  (S:∀h',h'.IsTupleIter it t (i+1)->r7 it s.heap h'->Q x {s with heap:=h'}):eb (e_ prog w) A (ip (.ref it)) Q E s:=by
 obtain⟨o,Y,U,hd⟩:=id Z;obtain⟨ol,X,_,nl,W⟩:=R;unfold ip;refine LP (wpAny_callSpecial?_slot (name:=hO "__next__") Z.typeIs Nr
  (ML Nr Z.typeIs O6 ?_ (OY _)))
 show eb _ _ (Q9 (.ref it) 0>>=_) _ _ s;refine LP (MN Y hd (x:=.ref t) rfl ?_);show eb _ _ (if (er t==hJ)=bc then _ else _) _ _ s;rw[if_neg (show ¬ ((er t==hJ)=bc)from Nj)];show eb _ _ (Q9 (.ref it) 1>>=_) _ _ s;refine LP (MN Y hd (x:=.int i 0) rfl ?_);show eb _ _ (RD (.ref t)>>=_) _ _ s;refine LP (Nh X W ?_);simp only[F_,T];refine LP (NQ Y hd (by simp) (LS ⟨x,rfl,LS (S _ ?_ (Ng ..))⟩))
 exact⟨_,MS _ Y (N1 (Nl hd _)),(PC ..).trans U,by
  rw[Nl hd];simp[m_]⟩
theorem lb(U:A.handled=none)(Z:s.heap.IsTupleIter it t i)(R:s.heap.IsTuple t items)(S:items[i]? =none)
  (T:∀h' e,Q8 it s.heap h'->(∃o,h'.get? e=ar o/\o.cls= .type "StopIteration")->E (.ref e) {s with heap:=h'}):eb (e_ prog w) A (ip (.ref it)) Q E s:=by
 obtain⟨o,W,P,hd⟩:=id Z;obtain⟨ol,Y,_,nl,X⟩:=R;unfold ip;refine LP (wpAny_callSpecial?_slot (name:=hO "__next__") Z.typeIs Nr
  (ML Nr Z.typeIs O6 ?_ (OY _)))
 show eb _ _ (Q9 (.ref it) 0>>=_) _ _ s;refine LP (MN W hd (x:=.ref t) rfl ?_);show eb _ _ (if (er t==hJ)=bc then _ else _) _ _ s;rw[if_neg (show ¬ ((er t==hJ)=bc)from Nj)];show eb _ _ (Q9 (.ref it) 1>>=_) _ _ s;refine LP (MN W hd (x:=.int i 0) rfl ?_);show eb _ _ (RD (.ref t)>>=_) _ _ s;refine LP (Nh Y X ?_);simp only[F_,S];refine LP (O0 (LP (NQ W hd (by simp) ?_)))
 show eb _ _ (R1 (.type "StopIteration") []>>=_) _ _ _;refine LP ?_;simp only[R1,newTuple];refine LP (Mw ?_ (by size_fits))
 refine LP (m:=F0 _ _) (Q7 (a:=hJ) (by first|rfl|(simp only[F0];rfl)) ?_)
 refine Mw ?_ (by size_fits)
 simp only[raiseNew];refine LP (wpAny_handled ?_);first|rw[show A.in1.handled=none from U]|rw[U]
 refine LP (LS (wpAny_throw ?_));exact T _ _ (((Ng ..).extBut.push _).push _) ⟨_,L3 _ rfl,rfl⟩
theorem AF{z TI TO L N p t:dt}{k:Nat}{xs ys:Array aC}{x y a b:aC}{Q:Option aC->b_->Prop}(D:Ru z TI TO L N p t)
  (v:M_ s.heap z TI TO .none) (f:p_ s.heap TI (.ref L) (.ref N)) (a4:p_ s.heap TO a b)
  (h1:s.heap.IsTupleIter L p k) (h2:s.heap.IsTupleIter N t k) (g:s.heap.IsTuple p xs) (d:s.heap.IsTuple t ys) (hx:xs[k]? =ar x) (hy:ys[k]? =ar y)
  (hQ:∀h',M_ h' z TI TO (m_ s.heap.objs.size)->p_ h' TO x y->h'.IsTupleIter L p (k+1)->h'.IsTupleIter N t (k+1)->p_ h' s.heap.objs.size x y->h'.objs.size=s.heap.objs.size+1->
   (∀c o,c≠z->c≠TO->c≠L->c≠N->s.heap.get? c=ar o->h'.get? c=ar o)->Q (ar (.ref s.heap.objs.size)) {s with heap:=h'}):eb (e_ prog w) A (z_ (.ref z)) Q E s:=by
 have hT:s.TypeIs (.ref z) "zip":=⟨_,v,rfl⟩;unfold z_;refine LP (N6 (wpAny_callSpecial?_slot (name:=hO "__next__") hT O7 (ML O7 hT F.entry_zip_next ?_ (F.args_zip_next_1 _))));show eb _ _ (Q9 (.ref z) 2>>=_) _ _ _;refine LP (MN v rfl (x:=.bool c_) rfl ?_);show eb _ _ (Q9 (.ref z) 3>>=_) _ _ _;refine LP (MN v rfl (x:=.ref TI) rfl ?_);refine LP (Nh f rfl ?_);show eb _ _ (l6 (.ref z)>>=_) _ _ _;refine LP ?_;unfold l6;refine LP (MN v rfl (x:=.none) rfl (LS ?_));simp only[if_true];refine LP (O0 ?_);refine LP (MN v rfl (x:=.ref TO) rfl ?_);refine LP (Nx v (by simp) fun g1 B Z=>?_)
 replace B:M_ g1 z TI TO .ellipsis:=B;refine LP ?_;simp only[List.zipIdx_cons,List.zipIdx_nil,O',List.forIn_nil];refine LP (LP (PL ?_));show eb _ _ (ip (.ref L)>>=_) _ _ _;refine LP (jM (s:={s with heap:=g1}) (h1.at fun o e=>Z.extBut _ _ D.i1z e) (g.extBut Z.extBut D.l1z) hx fun g2 h W=>LS ?_);have O:p_ g2 TO a b:=W.extBut _ _ D.TOi1 (Z.extBut _ _ D.TOz a4);refine LP (Nh O rfl ?_);refine LP (OX O fun g3 R U=>?_);replace R:p_ g3 TO x b:=R;refine LP (Q_ (LS ?_));refine LP (LP (PL ?_));show eb _ _ (ip (.ref N)>>=_) _ _ _;refine LP (jM (s:={s with heap:=g3}) (((h2.at fun o e=>Z.extBut _ _ D.i2z e).at fun o e=>W.extBut _ _ D.i12.symm e).at fun o e=>U.extBut _ _ D.TOi2.symm e)
  (((d.extBut Z.extBut D.l2z).extBut W.extBut D.l2i1).extBut U.extBut D.l2TO) hy fun g4 a0 T=>LS ?_)
 have J:p_ g4 TO x b:=T.extBut _ _ D.TOi2 R;refine LP (Nh J rfl ?_);refine LP (OX J fun Y X S=>?_);replace X:p_ Y TO x y:=X;refine LP (Q_ (LS (LS ?_)));refine LP (Nh X rfl ?_);refine LP (wpAny_newTuple ?_);have n:Y.objs.size=s.heap.objs.size:=by rw[S.1,T.1,U.1,W.1,Z.1]
 have u:M_ Y z TI TO .ellipsis:=S.extBut _ _ D.TOz.symm (T.extBut _ _ D.i2z.symm (U.extBut _ _ D.TOz.symm (W.extBut _ _ D.i1z.symm B)));have b0:∀c o,c≠z->c≠TO->c≠L->c≠N->s.heap.get? c=ar o->Y.get? c=ar o:=fun c o C l j c4 e=>
  S.extBut _ _ l (T.extBut _ _ c4 (U.extBut _ _ l (W.extBut _ _ j (Z.extBut _ _ C e))))
 have a6:Y.IsTupleIter L p (k+1):=((h.at fun o e=>U.extBut _ _ D.TOi1.symm e).at fun o e=>T.extBut _ _ D.i12 e).at fun o e=>S.extBut _ _ D.TOi1.symm e;have a3:Y.IsTupleIter N t (k+1):=a0.at fun o e=>S.extBut _ _ D.TOi2.symm e;have K:z<Y.objs.size:=LZ u;show eb _ _ (Builtin.SmallTypes.ownedTupleHandOut (.ref z) (.ref Y.objs.size)>>=_) _ _ _;refine LP ?_;unfold Builtin.SmallTypes.ownedTupleHandOut;have i:M_ (Y.push {cls:=.type "tuple",data:=.seq #[x,y]}) z TI TO .ellipsis:=LQ _ u;refine LP (Nx i (by simp) fun g7 I G=>?_)
 replace I:M_ g7 z TI TO (m_ Y.objs.size):=I;refine Nx I (by simp) fun q P H=>?_
 replace P:M_ q z TI TO (m_ Y.objs.size):=P;have up:∀c o,c≠z->Y.get? c=ar o->q.get? c=ar o:=fun c o C e=>H.extBut _ _ C (G.extBut _ _ C (LQ _ e));have m:p_ q Y.objs.size x y:=H.extBut _ _ (Nn K) (G.extBut _ _ (Nn K) (L3 _ rfl));have r:q.objs.size=Y.objs.size+1:=by rw[H.1,G.1,M5]
 rw[n]at P m r;refine LS ⟨_,rfl,?_⟩;refine LS ?_;show Q (ar (.ref Y.objs.size)) _;rw[n];exact hQ q P (up _ _ D.TOz X) (a6.at fun o e=>up _ o D.i1z e) (a3.at fun o e=>up _ o D.i2z e) m r fun c o C l j c4 e=>up c o C (b0 c o C l j c4 e)
theorem Cr{z TI TO L N m n:dt}{k:Nat}{xs ys:Array aC}{a b:aC}{Q:Option aC->b_->Prop}(d:A.handled=none)(D:Ru z TI TO L N m n)
  (K:M_ s.heap z TI TO .none) (u:p_ s.heap TI (.ref L) (.ref N)) (l:p_ s.heap TO a b)
  (f:s.heap.IsTupleIter L m k) (h2:s.heap.IsTupleIter N n k) (B:s.heap.IsTuple m xs) (t:s.heap.IsTuple n ys) (I:xs[k]? =none\/ys[k]? =none)
  (q:∀h',(∀c o,c≠z->c≠TO->c≠L->c≠N->s.heap.get? c=ar o->h'.get? c=ar o)->Q none {s with heap:=h'}):eb (e_ prog w) A (z_ (.ref z)) Q E s:=by
 have j:s.TypeIs (.ref z) "zip":=⟨_,K,rfl⟩;unfold z_;refine LP (N6 (wpAny_callSpecial?_slot (name:=hO "__next__") j O7 (ML O7 j F.entry_zip_next ?_ (F.args_zip_next_1 _))));have stop:∀(g:fg) (e:dt),(∃o,g.get? e=ar o/\o.cls= .type "StopIteration")->(∀c o,c≠z->c≠TO->c≠L->c≠N->s.heap.get? c=ar o->g.get? c=ar o)->∀R:aC->b_->Prop,
   (∀v s',eb (e_ prog w) A (do if<-QH v (.type "StopIteration")then a_ none else throw v) Q E s'->R v s')->R (.ref e) {s with heap:=g}:=fun g e ⟨o,ho,hc⟩ hk R hR=>hR _ _ (by
  refine LP (NO (T:="StopIteration") (b:=bc) ⟨o,ho,hc⟩ ON ?_);exact LS (q _ hk))
 show eb _ _ (Q9 (.ref z) 2>>=_) _ _ _;refine LP (MN K rfl (x:=.bool c_) rfl ?_);show eb _ _ (Q9 (.ref z) 3>>=_) _ _ _;refine LP (MN K rfl (x:=.ref TI) rfl ?_);refine LP (Nh u rfl ?_);show eb _ _ (l6 (.ref z)>>=_) _ _ _;refine LP ?_;unfold l6;refine LP (MN K rfl (x:=.none) rfl (LS ?_));simp only[if_true];refine LP (O0 ?_);refine LP (MN K rfl (x:=.ref TO) rfl ?_);refine LP (Nx K (by simp) fun g1 S Z=>?_)
 replace S:M_ g1 z TI TO .ellipsis:=S;refine LP ?_;simp only[List.zipIdx_cons,List.zipIdx_nil,O',List.forIn_nil];refine LP (LP (PL ?_));show eb _ _ (ip (.ref L)>>=_) _ _ _;cases hx:xs[k]? with
 |none=>
  refine LP (lb (s:={s with heap:=g1}) d (f.at fun o e=>Z.extBut _ _ D.i1z e) (B.extBut Z.extBut D.l1z) hx fun g2 e Y he=>?_);obtain⟨p,X,U⟩:=he;have y:M_ g2 z TI TO .ellipsis:=Y _ _ D.i1z.symm S;have O:e≠z:=fun x=>by subst x;rw[y]at X;cases X;simp at U
  refine Nx y (by simp) fun g3 _ W=>?_
  refine LP (NO (T:="StopIteration") (b:=bc) ⟨p,W.extBut _ _ O X,U⟩ ON ?_);exact LS (q _ fun c o C _ r _ x=>W.extBut _ _ C (Y _ _ r (Z.extBut _ _ C x)))
 | some x=>
  have hy:ys[k]? =none:=by rcases I with h|h;rw[hx]at h;cases h;exact h
  refine LP (jM (s:={s with heap:=g1}) (f.at fun o e=>Z.extBut _ _ D.i1z e) (B.extBut Z.extBut D.l1z) hx fun g2 b0 Y=>LS ?_);have P:p_ g2 TO a b:=Y.extBut _ _ D.TOi1 (Z.extBut _ _ D.TOz l);refine LP (Nh P rfl ?_);refine LP (OX P fun g3 i W=>?_);refine LP (Q_ (LS ?_));refine LP (LP (PL ?_));show eb _ _ (ip (.ref N)>>=_) _ _ _;refine LP (lb (s:={s with heap:=g3}) d (((h2.at fun o e=>Z.extBut _ _ D.i2z e).at fun o e=>Y.extBut _ _ D.i12.symm e).at fun o e=>W.extBut _ _ D.TOi2.symm e)
   (((t.extBut Z.extBut D.l2z).extBut Y.extBut D.l2i1).extBut W.extBut D.l2TO) hy fun g4 e J he=>?_)
  obtain⟨p,X,U⟩:=he;have H:M_ g4 z TI TO .ellipsis:=J _ _ D.i2z.symm (W.extBut _ _ D.TOz.symm (Y.extBut _ _ D.i1z.symm S));have O:e≠z:=fun x=>by subst x;rw[H]at X;cases X;simp at U
  refine Nx H (by simp) fun g5 _ G=>?_
  refine LP (NO (T:="StopIteration") (b:=bc) ⟨p,G.extBut _ _ O X,U⟩ ON ?_);exact LS (q _ fun c o C c2 r c4 x=>G.extBut _ _ C (J _ _ c4 (W.extBut _ _ c2 (Y.extBut _ _ r (Z.extBut _ _ C x)))))
end
def DT(l:dt):Obj:={cls:=.type "tuple_iterator",data:=.fields #[.ref l,.int 0 0]}
def Ho(h:fg)(l1:dt):Heap:=h.push (DT l1)
def Hq(h:fg)(l1 l2:dt):Heap:=(Ho h l1).push (DT l2)
def Hr(h:fg)(l1 l2:dt):Heap:=(Hq h l1 l2).push {cls:=.type "tuple",data:=.seq #[.ref h.objs.size,.ref (Ho h l1).objs.size]}
def Iw(h:fg)(l1 l2:dt):Heap:=(Hr h l1 l2).push {cls:=.type "tuple",data:=.seq #[.none,.none]}
def Hs(h:fg)(l1 l2:dt):Heap:=(Iw h l1 l2).push {cls:=.type "zip",data:=.fields #[.none,.bool c_,.bool c_,.ref (Hq h l1 l2).objs.size,.ref (Hr h l1 l2).objs.size]}
theorem Ht(Z Y:dt)(xs ys:Array aC):
  Sa (Builtin.«zip.__new__» ⟨[.type "zip",.ref Z,.ref Y],[]⟩) (fun _ R s=>s.heap.IsTuple Z xs/\s.heap.IsTuple Y ys/\R (.ok (.ret (.ref (Iw s.heap Z Y).objs.size))) {s with heap:=Hs s.heap Z Y}):=
 .of_wp fun prog w A R s h=>by
  obtain⟨P,g,d,S,os⟩:=s;obtain⟨W,X,h⟩:=h;have Q:=sub_zip;have U:QS (Ra ⟨P,g,d,S,os⟩) Z xs:=W;have T:QS (Ra ⟨P.push {cls:=.type "tuple_iterator",data:=.fields #[.ref Z,.int 0 0]},g,d,S,os⟩) Y ys:=let ⟨o,e,r⟩:=X;⟨o,LQ _ e,r⟩
  wp_walk using Nk U,Nk T
  exact⟨_,rfl,h⟩
section
variable {prog:ee}{w:eM}{A:gd}{E:aC->b_->Prop}{s:b_}
theorem AG{Q:aC->b_->Prop}(S:s.heap.IsTuple l1 xs)(X:s.heap.IsTuple l2 ys)
  (h:∀h',M_ h' (s.heap.objs.size+4) (s.heap.objs.size+2) (s.heap.objs.size+3) .none->p_ h' (s.heap.objs.size+2) (.ref s.heap.objs.size) (.ref (s.heap.objs.size+1))->
   p_ h' (s.heap.objs.size+3) .none .none->h'.IsTupleIter s.heap.objs.size l1 0->h'.IsTupleIter (s.heap.objs.size+1) l2 0->(∀c o,s.heap.get? c=ar o->h'.get? c=ar o)->Q (.ref (s.heap.objs.size+4)) {s with heap:=h'}):
  eb (e_ prog w) A (call (.type "zip") [.ref l1,.ref l2]) Q E s:=by
 refine callType_new F.called_zip (by decide) (F.typeCall_zip_2 _ _) (F.newCall_zip_2 _ _) (fun obj=>F.args_object_init_3 obj _ _) F.entry_zip_new (Ht l1 l2 xs ys) ⟨S,X,?_⟩
 have U:(Ho s.heap l1).objs.size=s.heap.objs.size+1:=M5 ..;have T:(Hq s.heap l1 l2).objs.size=s.heap.objs.size+2:=(M5 ..).trans (by rw[U])
 have W:(Hr s.heap l1 l2).objs.size=s.heap.objs.size+3:=(M5 ..).trans (by rw[T])
 have O:(Iw s.heap l1 l2).objs.size=s.heap.objs.size+4:=(M5 ..).trans (by rw[W])
 have Z:∀{c o},(Iw s.heap l1 l2).get? c=ar o->(Hs s.heap l1 l2).get? c=ar o:=fun e=>LQ _ e;have Y:∀{c o},(Hr s.heap l1 l2).get? c=ar o->(Iw s.heap l1 l2).get? c=ar o:=fun e=>LQ _ e;have R:∀{c o},(Hq s.heap l1 l2).get? c=ar o->(Hr s.heap l1 l2).get? c=ar o:=fun e=>LQ _ e;have N:∀{c o},(Ho s.heap l1).get? c=ar o->(Hq s.heap l1 l2).get? c=ar o:=fun e=>LQ _ e;have K:∀{c o},s.heap.get? c=ar o->(Ho s.heap l1).get? c=ar o:=fun e=>LQ _ e;have P:(Hs s.heap l1 l2).get? (Iw s.heap l1 l2).objs.size=ar {cls:=.type "zip",data:=.fields #[.none,.bool c_,.bool c_,.ref (Hq s.heap l1 l2).objs.size,.ref (Hr s.heap l1 l2).objs.size]}:=L3 _ rfl;have L:(Hs s.heap l1 l2).get? (Hr s.heap l1 l2).objs.size=ar {cls:=.type "tuple",data:=.seq #[.none,.none]}:=Z (L3 _ rfl);have g3:(Hs s.heap l1 l2).get? (Hq s.heap l1 l2).objs.size=ar {cls:=.type "tuple",data:=.seq #[.ref s.heap.objs.size,.ref (Ho s.heap l1).objs.size]}:=Z (Y (L3 _ rfl));have g2:(Hs s.heap l1 l2).get? (Ho s.heap l1).objs.size=ar (DT l2):=Z (Y (R (L3 _ rfl)));have g1:(Hs s.heap l1 l2).get? s.heap.objs.size=ar (DT l1):=Z (Y (R (N (L3 _ rfl))));show _/\_;rw[T,W,O]at P;rw[U,T]at g3;rw[W]at L;rw[U]at g2;rw[O];exact⟨⟨_,P,rfl⟩,h _ P g3 L ⟨_,g1,rfl,rfl⟩ ⟨_,g2,rfl,rfl⟩ fun c o x=>Z (Y (R (N (K x))))⟩
end
def Bg(va vb:List V):It:=⟨fun i _=>i<va.length/\i<vb.length,fun i H x H'=>∃p a b,H p=none/\va[i]? =ar a/\vb[i]? =ar b/\x= .ref p/\H'=upd H p (.tup [a,b]),fun i _=>va.length<=i\/vb.length<=i⟩
section
variable {X:Cx}{pins:List (dt×Obj)}{σ:L2.St}{H:Hp}{s:b_}
theorem uB{h':fg}{t':Nat}{ch:List dt}(I:L2.Inv X pins σ H s)(W:∀b∈ch,nH X pins H b)(k:∀b o,b∉ch->s.heap.get? b=ar o->h'.get? b=ar o):L2.Inv X pins σ H {s with heap:=h',toks:=t'}:=by
 have Y:∀b u,H b=ar u->b∉ch:=fun b u e z=>by rw[(W b z).1]at e;cases e
 refine I.step (g':=s.gens) (d':=s.drawn) (ch:=ch) (fun b R=>?_) (fun b o _ _ Z e _=>k b o Z e) (fun b o _ _ Z e _=>⟨o.slots,k b o Z e⟩) (fun _ _ _ _ n=>n)
  (fun b o Z e=>⟨o,k b o Z e⟩) (fun _ _ e=>e) (fun _ _ _ e=>e) (fun b Q e=>⟨#[],by rw[e];simp⟩) (fun m hm=>?_) (fun b u e=>?_) I.bare
 ·obtain⟨f0,f1,f2,T,f4,U⟩:=W b R;exact⟨T,f1,f4,U⟩
 ·obtain⟨o,es,ep,S,r⟩:=hm;exact⟨o,es,ep,k _ o (fun z=>(W _ z).2.1 rfl) S,r⟩
 ·refine(I.hok b u e).stay (fun c v Z q=>k c v ?_ q) (fun _ q=>q) fun _ _ q=>q;rcases Z with z|z
  ·rw[z];exact Y b u e
  ·exact Y c _ z
theorem uC{h':fg}{t':Nat}{ch:List dt}{a:dt}{o:HO}(I:L2.Inv X pins σ H s)(S:∀b∈ch,nH X pins H b)(k:∀b o,b∉ch->s.heap.get? b=ar o->h'.get? b=ar o)(R:s.heap.objs.size<=a)(T:bo X.prog X.w (upd H a o) h' a o):
  L2.Inv X pins σ (upd H a o) {s with heap:=h',toks:=t'}:=by
 have W:H a=none:=I.hok.fresh R;have Y:∀b u,H b=ar u->b∉ch:=fun b u e z=>by rw[(S b z).1]at e;cases e
 have ne:∀b o,s.heap.get? b=ar o->b≠a:=fun b o e=>L7 (Mc (LZ e) R);refine I.step (g':=s.gens) (d':=s.drawn) (ch:=ch) (fun b U=>?_) (fun b o _ _ Z e _=>k b o Z e) (fun b o _ _ Z e _=>⟨o.slots,k b o Z e⟩) (fun b o _ e n=>by rw[aI (ne b o e)];exact n)
  (fun b o Z e=>⟨o,k b o Z e⟩) (fun b xs e=>by rw[aI (aR e W)];exact e) (fun b _ _ e=>by rw[aI (aR e W)];exact e) (fun b N e=>⟨#[],by rw[aI (aR e W),e];simp⟩) (fun m hm=>?_) (fun b u e=>?_) I.bare
 ·obtain⟨f0,f1,f2,Q,f4,P⟩:=S b U;exact⟨Q,f1,f4,P⟩
 ·obtain⟨o,es,ep,O,r⟩:=hm;exact⟨o,es,ep,k _ o (fun z=>(S _ z).2.1 rfl) O,r⟩
 ·by_cases U:b=a
  ·subst U;rw[aV]at e;cases e;exact T
  ·rw[aI U]at e;refine(I.hok b u e).stay (fun c v Z q=>k c v ?_ q) (fun c q=>by rw[aI (aR q W)];exact q) fun c xs q=>by rw[aI (aR q W)];exact q
   rcases Z with z|z
   ·rw[z];exact Y b u e
   ·exact Y c _ z
end
theorem Cs{P:ee}{w:eM}{K:dV}{B:List Expr}{x1}{tp:Pos}{z TI TO N O l1 m:dt}(D:Ru z TI TO N O l1 m){F J:List V}(H0:Hp->Prop)(r:∀H,H0 H↔(H l1=ar (.tup F)/\H m=ar (.tup J))):
  Turn P w K (.Tuple B x1 tp) ⟨fun i H=>(Bg F J).go i H/\H0 H,(Bg F J).yld,fun i H=>(Bg F J).stop i H/\H0 H⟩ [z,TI,TO,N,O] z
   (fun i h=>M_ h z TI TO .none/\p_ h TI (.ref N) (.ref O)/\(∃a b,p_ h TO a b)/\h.IsTupleIter N l1 i/\h.IsTupleIter O m i) where
 mem:=by simp
 obj:=fun i h st b Z=>by
  obtain⟨R,Y,⟨a,c,U⟩,⟨o1,e1,c1,d1⟩,⟨o2,e2,c2,d2⟩⟩:=st;simp only[f_,fb,or_false]at Z;rcases Z with rfl|rfl|rfl|rfl|rfl
  ·exact⟨_,R,fun v z=>by cases z⟩
  ·exact⟨_,Y,fun v z=>by cases z⟩
  ·exact⟨_,U,fun v z=>by cases z⟩
  ·exact⟨_,e1,fun v z=>by rw[d1]at z;cases z⟩
  ·exact⟨_,e2,fun v z=>by rw[d2]at z;cases z⟩
 keep:=fun i h h' st k=>by
  obtain⟨R,Y,⟨a,c,U⟩,C,G⟩:=st;exact⟨k z (by simp) _ R,k TI (by simp) _ Y,⟨a,c,k TO (by simp) _ U⟩,C.at fun o e=>k N (by simp) o e,G.at fun o e=>k O (by simp) o e⟩
 item:=by
  intro X hP hw l hc i pins s σ H E I hf st hg;subst hP hw l;obtain⟨R,Y,⟨a,c,U⟩,C,G⟩:=st;obtain⟨⟨ga,gb⟩,hH⟩:=hg;obtain⟨hA,hB⟩:=(r H).mp hH;obtain⟨q,L,p1,_⟩:=I.tuple (.of hA);obtain⟨t,Q,n,_⟩:=I.tuple (.of hB);obtain⟨j,b5,d⟩:=L.get (LV ga);obtain⟨f,b2,c3⟩:=Q.get (LV gb);refine AF D R Y U C G p1 n (x:=j) (y:=f) (by simpa using b5) (by simpa using b2) fun h' a1 a2 a3 a4 a5 a6 p=>?_
  have b1:H s.heap.objs.size=none:=I.hok.fresh (LU _);have lt:∀{c o},s.heap.get? c=ar o->s.heap.objs.size≠c:=fun e=>Nn (LZ e);refine⟨_,rfl,Pl a1 fun S b3 T=>?_⟩;have u:p_ S TI (.ref N) (.ref O):=T.extBut _ _ D.TIz (p _ _ D.TIz D.TITO D.TIi1 D.TIi2 Y);have kk:∀b o,b∉[z,TI,TO,N,O]->s.heap.get? b=ar o->S.get? b=ar o:=fun b o Z e=>by
   simp only[f_,fb,or_false,not_or]at Z;exact T.extBut _ _ Z.1 (p b o Z.1 Z.2.2.1 Z.2.2.2.1 Z.2.2.2.2 e)
  have A:p_ S s.heap.objs.size j f:=T.extBut _ _ (lt R) a5;have I2:L2.Inv X pins σ (upd H s.heap.objs.size (.tup [F[i],J[i]])) {s with heap:=S,toks:=s.toks}:=uC (o:=.tup [F[i],J[i]]) I hf kk (LU _) ⟨⟨by show 2<=sizeLine;decide,_,A,rfl⟩,[j,f],.cons d (.cons c3 .nil),_,A,rfl,_,rfl⟩
  refine⟨.ref s.heap.objs.size,_,I2,rfl,
   ⟨_,_,_,b1,LV ga,LV gb,rfl,rfl⟩,⟨b3,u,⟨_,_,T.extBut _ _ D.TOz a2⟩,a3.at fun o e=>T.extBut _ _ D.i1z e,a4.at fun o e=>T.extBut _ _ D.i2z e⟩,fun b Z=>?_⟩
  obtain⟨ob,ho,_⟩:∃ob,s.heap.get? b=ar ob/\True:=by
   simp only[f_,fb,or_false]at Z;rcases Z with rfl|rfl|rfl|rfl|rfl
   ·exact⟨_,R,trivial⟩
   ·exact⟨_,Y,trivial⟩
   ·exact⟨_,U,trivial⟩
   ·obtain⟨o,e,_⟩:=C;exact⟨_,e,trivial⟩
   ·obtain⟨o,e,_⟩:=G;exact⟨_,e,trivial⟩
  rw[aI (L7 (LZ ho))];exact(hf b Z).1
 done:=by
  intro X hP hw l hc i pins s σ H E I hf st hg;subst hP hw l;obtain⟨R,Y,⟨a,c,U⟩,C,G⟩:=st;obtain⟨gs,hH⟩:=hg;obtain⟨hA,hB⟩:=(r H).mp hH;obtain⟨q,L,p1,_⟩:=I.tuple (.of hA);obtain⟨t,Q,n,_⟩:=I.tuple (.of hB);have d5:=L.length;have d7:=Q.length;refine Cr (I.ok.hd hc) D R Y U C G p1 n (gs.imp (fun g=>by simp;omega) fun g=>by simp;omega) fun h' p=>⟨rfl,uB (t':=s.toks) I hf fun b o Z e=>?_⟩
  simp only[f_,fb,or_false,not_or]at Z;exact p b o Z.1 Z.2.2.1 Z.2.2.2.1 Z.2.2.2.2 e
 self:=fun _ _ _ _ _ st h=>OR st.1 h
theorem zip_get{xs ys:List D}{i:Nat}{d:D}(h:((xs.zip ys).map fun p=>D.tup [p.1,p.2])[i]? =ar d):∃x y,xs[i]? =ar x/\ys[i]? =ar y/\d= .tup [x,y]:=by
 rw[Mi]at h;cases q:(xs.zip ys)[i]? with
 |none=>rw[q]at h;cases h
 |some p=>
  rw[q]at h;cases h;obtain⟨Y,Z⟩:=Oc.mp q;exact⟨p.1,p.2,Y,Z,rfl⟩
theorem xP{K:dV}{ι:List dt}{H:Hp}{S:aF}{a b:dt}{Y X:List V}{xs ys:List D}(Z:Rep K ι H S)(F:H a=ar (.tup Y))(E:H b=ar (.tup X))(w:RelDs K ι H xs Y)(C:RelDs K ι H ys X):
  ku K ⟨(xs.zip ys).map fun p=>.tup [p.1,p.2],.none⟩ ⟨fun i H=>(Bg Y X).go i H/\(H a=ar (.tup Y)/\H b=ar (.tup X)),(Bg Y X).yld,fun i H=>(Bg Y X).stop i H/\(H a=ar (.tup Y)/\H b=ar (.tup X))⟩ ι H:=by
 intro P O S2 e rep2 ok i;have R:O a=ar (.tup Y):=(e.oth a _ F (Z.notIn F (by intro _ z;cases z)) (by intro _ z;cases z) (by intro _ z;cases z)).1
 have U:O b=ar (.tup X):=(e.oth b _ E (Z.notIn E (by intro _ z;cases z)) (by intro _ z;cases z) (by intro _ z;cases z)).1
 have Q:=w.laterN Z e;have T:=C.laterN Z e;have r:=Q.length;have q:=T.length;refine⟨fun d hd=>?_,fun hlen=>?_⟩
 ·obtain⟨x,y,G,I,rfl⟩:=zip_get hd;have s:=(LX.mp G).1;have t:=(LX.mp I).1;refine⟨⟨⟨by omega,by omega⟩,R,U⟩,?_⟩
  rintro v H3 ⟨p,N,J,hp,g1,g2,rfl,rfl⟩;obtain⟨v1,e1,A⟩:=Q.get' G;obtain⟨v2,e2,B⟩:=T.get' I;obtain rfl:v1=N:=Mn (e1.symm.trans g1);obtain rfl:v2=J:=Mn (e2.symm.trans g2);have L:Ext P O P (upd O p (.tup [v1,v2])):=fi hp;exact⟨L,gf rep2 hp,.tup aV (.cons (A.later rep2 L) (.cons (B.later rep2 L) .nil))⟩
 ·have u:min xs.length ys.length<=i:=by simpa using hlen
  refine⟨?_,R,U⟩;rcases Nat.le_total xs.length ys.length with z|z
  ·exact .inl (by omega)
  ·exact .inr (by omega)
end S4
namespace S3
open PySem PySem.Spec PyProof.Rows L2 S4
abbrev mV(i:Nat):TM:=fun ρ=>Ej ρ i
abbrev mK(d:D):TM:=fun _=>a_ d
abbrev qB(m n:TM):TM:=fun ρ=>do let x<-m ρ;let c<-lE x;if c=bc then n ρ else a_ (.bl c_)
abbrev JA(m:TM):TM:=fun ρ=>do let x<-m ρ;let c<-lE x;a_ (.bl (!c))
abbrev LH(t:aQ->M Bool)(m n:TM):TM:=fun ρ=>do let k<-t ρ;if k=bc then m ρ else n ρ
abbrev Bh:=aQ->M (List D)
abbrev ao:Bh:=fun _=>a_ []
abbrev ae(m:TM)(ms:Bh):Bh:=fun ρ=>do let x<-m ρ;let xs<-ms ρ;a_ (x::xs)
abbrev dZ(ms:Bh):TM:=fun ρ=>do let ds<-ms ρ;bU ds
abbrev bx(ms:Bh):TM:=fun ρ=>do let ds<-ms ρ;bJ ds
abbrev av(F:List D->M D)(ms:Bh):TM:=fun ρ=>do let ds<-ms ρ;F ds
abbrev b9(F:List D->M D)(m:TM):TM:=av F (ae m ao)
abbrev aX(f:D->D->M D)(m n:TM):TM:=fun ρ=>do let x<-m ρ;let y<-n ρ;f x y
abbrev Hu(f g:D->D->M D)(m n l:TM):TM:=fun ρ=>do let x<-m ρ;let y<-n ρ;let z<-f x y;let k<-lE z;if k=bc then do let w<-l ρ;g y w else a_ (.bl c_)
abbrev K7:=aQ->M (Option Int)
abbrev oN:K7:=fun _=>a_ none
abbrev oS(m:TM):K7:=fun ρ=>do let x<-m ρ;let i<-Lp x;a_ (ar i)
abbrev nE(m:TM)(lo hi:K7):TM:=fun ρ=>do let x<-m ρ;let i<-lo ρ;let j<-hi ρ;uj x i j
abbrev Hv(m:TM):TM:=fun ρ=>do let x<-m ρ;Ha x
abbrev fu(m:TM)(T:String):TM:=fun ρ=>do let x<-m ρ;An (fun t=>iI t T) x
abbrev JB(m:TM)(T U:String):TM:=fun ρ=>do let x<-m ρ;An (fun t=>iI t T||iI t U) x
abbrev xQ(f:D->List D->M D)(m n:TM):TM:=fun ρ=>do let x<-m ρ;Iv x;let ds<-(do let y<-n ρ;let ys<-a_ [];a_ (y::ys));f x ds
abbrev cq(mi:aQ->M Iter)(g:nD)(t:aQ->M Bool)(m:TM)(js:List (Option Nat)):TM:=fun ρ=>do let it<-mi ρ;let ys<-i5 it g t m (j9 js ρ);bJ ys
abbrev kb:=aQ->M Bool
abbrev bV(m:TM):kb:=fun ρ=>do let x<-m ρ;lE x
abbrev dG(f:D->D->M D)(m n:TM):kb:=fun ρ=>do let z<-(do let x<-m ρ;let y<-n ρ;f x y);lE z
abbrev xR(f g:D->D->M D)(m n l:TM):kb:=fun ρ=>do let v<-(do let x<-m ρ;let y<-n ρ;let z<-f x y;let k<-lE z;if k=bc then do let w<-l ρ;g y w else a_ (.bl c_));lE v
abbrev dq(t:kb):kb:=fun ρ=>do let c<-t ρ;a_ (!c)
abbrev AH(t u:kb):kb:=fun ρ=>do let c<-t ρ;if c=bc then u ρ else a_ c_
abbrev oH(t u:kb):kb:=fun ρ=>do let c<-t ρ;if c=bc then a_ bc else u ρ
abbrev lH:kb:=fun _=>a_ bc
abbrev oJ(m:TM):aQ->M Iter:=fun ρ=>do let ds<-ae m ao ρ;l9 ds
abbrev Hw(m n:TM):aQ->M Iter:=fun ρ=>do let ds<-ae m (ae n ao) ρ;kZ ds
abbrev iq(m:TM):aQ->M Iter:=fun ρ=>do let x<-m ρ;Jv x
abbrev gN(i:Nat):nD:=fun d ρ=>a_ (ρ.set i (ar d))
abbrev DU(m n:TM):nD:=fun d ρ=>do let x<-m ρ;let y<-n ρ;gY x y d;a_ ρ
abbrev cK:cJ:=fun ρ=>a_ (.nx ρ)
abbrev aH(m n:cJ):cJ:=fun ρ=>do let o<-m ρ;Ak o n
abbrev nF(me:TM):cJ:=fun ρ=>do let _<-me ρ;a_ (.nx ρ)
abbrev bp(me:TM):cJ:=fun ρ=>do let d<-me ρ;a_ (.ret d)
abbrev il(t:kb)(m n:cJ):cJ:=fun ρ=>do let c<-t ρ;if c=bc then m ρ else n ρ
abbrev bH(i:Nat)(me:TM):cJ:=fun ρ=>do let d<-me ρ;a_ (.nx (ρ.set i (ar d)))
abbrev kB(me:TM)(g:nD):cJ:=fun ρ=>do let d<-me ρ;let ρ'<-g d ρ;a_ (.nx ρ')
abbrev uD(i j:Nat)(ms:Bh):cJ:=fun ρ=>do let ds<-ms ρ;match ds with|[d1,d2]=>a_ (.nx ((ρ.set i (ar d1)).set j (ar d2)))|_=>M.fail
abbrev jB(mi:aQ->M Iter)(g:nD)(b:cJ):cJ:=fun ρ=>do let it<-mi ρ;eG it g b it.items ρ
abbrev Hx(k:Nat)(t:kb)(b:cJ):cJ:=fun ρ=>ky t b k ρ
structure DefIs(P:ee)(w:eM)(K:dV)(mg:Str->Option aC)(base:fg)(k:Nat)(x:Str)(ps:List Str)(F:List D->M D):Prop where
 ex:∃f fd,FnOk P w K mg base LC k f fd ps (LF K F)/\mg x=ar (.ref f)/\z3 K (.ref f)=bc/\Binds K fd ps []
section
variable {X:Cx}{E:XD}{e:Expr}{es:List Expr}{pos:Pos}{ms:Bh}
theorem aD{c j p}:d_ (.Constant c j p::es) env=(c_,gg (.Constant c j p) env)::d_ es env:=rfl
theorem bq{l k p}:d_ (.Tuple l k p::es) env=(c_,gg (.Tuple l k p) env)::d_ es env:=rfl
theorem m5{l p}:d_ (.List l p::es) env=(c_,gg (.List l p) env)::d_ es env:=rfl
theorem ag{x p}:d_ (.Name x p::es) env=(c_,gg (.Name x p) env)::d_ es env:=rfl
theorem aY{f l k p}:d_ (.Call f l k p::es) env=(c_,gg (.Call f l k p) env)::d_ es env:=rfl
theorem eU{a o b p}:d_ (.BinOp a o b p::es) env=(c_,gg (.BinOp a o b p) env)::d_ es env:=rfl
theorem aS{a b p}:d_ (.Subscript a b p::es) env=(c_,gg (.Subscript a b p) env)::d_ es env:=rfl
theorem yW{a b p}:d_ (.Dict a b p::es) env=(c_,gg (.Dict a b p) env)::d_ es env:=rfl
theorem qC{a b p}:d_ (.UnaryOp a b p::es) env=(c_,gg (.UnaryOp a b p) env)::d_ es env:=rfl
theorem xS{j p}:SE X E (.UnaryOp .USub (.Constant (.int i) j p) pos) (mK (.int (-i))):=by
 refine PE.imp (FK Bq w5) fun σ H Q h=>?_;obtain⟨ι,S,ρ,rep,re,c⟩:=h;exact⟨i,rfl,aj c .refl rep _ (.int _)⟩
theorem qD(W:Gl X x)(Z:∃t,X.mg x=ar (.int i t))(Y:(x==("__debug__":Str))=false:=by decide):SE X E (.Name x pos) (mK (.int i)):=
 let ⟨_,h⟩:=Z
 El W h Y
def JC(fs:Scope)(N:List Str)(scope:Scope)(Nc:List Str)(js:List (Option Nat)):Bool:=
 (scope.kind== .function) && scope.names.all (fun y=>y.2 != .cell||scope.names.lookup y.1==ar .cell) && scope.names.all (fun y=>y.2 != .local||scope.names.lookup y.1==ar .local) &&
  scope.names.all (fun y=>y.2 != .free||(fs.names.lookup y.1==ar .cell||fs.names.lookup y.1==ar .free)) && (js.length==Nc.length) &&
  (Nc.zip js).all (fun p=>match p.2 with|none=>bc|some j=>N[j]? ==ar p.1 && scope.names.lookup p.1==ar .free)
theorem nU(fs:Scope)(N:List Str)(S:∀x,X.env.kindOf x=fs.names.lookup x)(W:X.N=N)(h:JC fs N scope Nc js=bc):CompScope X scope Nc js:=by
 unfold JC at h;simp only[h_,x',beq_iff_eq,bne_iff_ne,vr]at h;obtain⟨⟨⟨⟨⟨U,Y⟩,P⟩,R⟩,T⟩,O⟩:=h;refine⟨U,fun y Z e=>(Y y Z).resolve_left fun z=>z e,fun y Z e=>(P y Z).resolve_left fun z=>z e,fun y Z e=>?_,T,fun i x j e1 e2=>?_⟩
 ·rw[S];exact(R y Z).resolve_left fun z=>z e
 ·have Q:(Nc.zip js)[i]? =ar (x,ar j):=Oc.mpr ⟨e1,e2⟩;have:=O _ (Mx Q);simp only[h_,beq_iff_eq]at this;rw[W];exact this
theorem gK(Z:Room k A):A.units+64<cLine:=by have:=Z.un;omega
theorem LJ(Z:Room k A):A.units+8<cLine:=by have:=Z.un;omega
theorem Ct(Z:Room k A):A.units<cLine:=by have:=Z.un;omega
end
section
variable {P:ee}{w:eM}{K:dV}{mg:Str->Option aC}{base:fg}
end
def runs{α:Type}(c:M α)(S:aF)(Q:α->aF->Prop):Prop:=∃a S',c S=ar (.ok a,S')/\Q a S'
section
variable {α β:Type}{c:M α}{f:α->M β}{S:aF}{Q Q':α->aF->Prop}{R:β->aF->Prop}
theorem uE(h:c S=ar (.ok a,S1)):runs c S Q↔Q a S1:=by
 constructor
 ·rintro⟨a',S',e,q⟩;rw[h]at e;cases e;exact q
 ·exact fun q=>⟨a,S1,h,q⟩
theorem ED(h:c S=none):runs c S Q↔False:=by
 constructor
 ·rintro⟨a',S',e,q⟩;rw[h]at e;cases e
 ·exact fun q=>q.elim
theorem sP(h:runs c S Q)(k:∀a S',Q a S'->Q' a S'):runs c S Q':=let ⟨a,S',e,q⟩:=h;⟨a,S',e,k a S' q⟩
end
section
variable {S:aF}{Q:D->aF->Prop}
theorem AI:runs (bJ ds) S Q↔ds.length<=lim/\Q (.lst S.length) (S++[ds]):=by
 by_cases h:ds.length<=lim
 ·rw[uE (by unfold bJ;rw[if_pos h])];simp[h]
 ·rw[ED (by unfold bJ;rw[if_neg h])];simp[h]
theorem gU{f:pd->pd->Bool}(Y:ji S 60 a=ar p)(Z:ji S 60 b=ar q):runs (Iu f a b) S Q↔Q (.bl (f p q)) S:=by
 rw[uE (by unfold Iu;rw[Y,Z])]
theorem yX(X:ji S 60 a=ar p)(Z:ji S 60 b=ar q)(Y:K3 f p q=ar r):runs (Jq f a b) S Q↔Q (.bl r) S:=by
 rw[uE (by unfold Jq;rw[X,Z];simp only[Y];rfl)]
end
end S3
namespace S7
open PySem PySem.Spec PySem.W PyProof.Rows
section
variable {prog:ee}{w:eM}{A:gd}{E:aC->b_->Prop}{s:b_}{K:Sd}{x C:dt}{ox:Obj}{od:Option Obj}{name:Str}
theorem yY:Slot "BaseException" "__getattribute__" "BaseException.__getattribute__":=
 .of (owner:="BaseException") (n:="__getattribute__") (by rw[P4,OQ];kernel_rfl) (by decide+kernel) (by decide+kernel) (by decide+kernel)
  (by first|exact .inl (by decide+kernel)|exact .inr (by decide+kernel)) (by rw[OM];kernel_rfl)
theorem Cu{M:Ry}{Z:aC}{Q:Unit->b_->Prop}(X:K.In s.heap)(I:y' s.heap x ox C od)(P:RE K C (.type "BaseException")=ar bc)(h:Q () s):
  eb M A (L_ "BaseException.__getattribute__" ⟨[.ref x,Z],[]⟩) Q E s:=by
 have U:builtinKind "BaseException.__getattribute__"=ar .slot:=by decide+kernel
 have Y:splitId "BaseException.__getattribute__"=ar ("BaseException","__getattribute__"):=by decide+kernel
 have S:=I.type (M:=M);have L1:=looks_mroIn (M:=M) X P;have O:=F.args_bexc_ga (.ref x) Z;obtain⟨R,g,d,t,os⟩:=s;have T:Looks M R (QH (.ref x) (.type "BaseException")) true:=S.andThen L1;simp only[L_,U,Y];refine LP (T.at ?_)
 repeat (first|wp_step)
 exact h
theorem Cv{Y Z:Bool}{O:Tok}{Q:aC->b_->Prop}(X:K.In s.heap)(I:y' s.heap x ox C od)(R:y2 K (.ref C) "__getattribute__"=ar (ar (.builtin "BaseException.__getattribute__")))
  (P:y2 K (.ref C) "__getattr__"=ar none) (J:RE K C (.type "BaseException")=ar bc)
  (h:eb (e_ prog w) A.in1 (Builtin.«object.__getattribute__» ⟨[.ref x,.str name O],[]⟩)
   (fun fin s'=>match fin with| .done (.ret v)=>eb (e_ prog w) A (handedOut v) Q E s'|_=>False) (fun _ _=>False) s):
  eb (e_ prog w) A (getAttrBy (.ref x) (.str name O) Y Z) Q E s:=by
 obtain⟨H,g,d,t,os⟩:=s;have L:=I.type (M:=e_ prog w);have L1:=QT (M:=e_ prog w) X R;have N:=QT (M:=e_ prog w) X P;have U:(Z && RF (y9 "BaseException.__getattribute__"))=false:=by cases Z<;>rfl
 have T:(y9 "BaseException.__getattribute__"==y9 "object.__getattribute__")=false:=by decide+kernel
 have S:(RF (er C) && y9 "BaseException.__getattribute__"==y9 "object.__getattribute__")=false:=by rw[T,Pi]
 unfold getAttrBy;refine ME (LP (L.at (LP (L1.at ?_))));dsimp only;rw[S];simp only[ey,if_false];unfold getAttrByItsOwn hookBefore;rw[if_pos (show RF (er C)=bc from rfl)];refine LP (N.at ?_);unfold callGetattribute;rw[U];simp only[ey,if_false];refine LP (N6 (ME ?_));unfold boundAndCalled;rw[yY.bind];refine LP (LS ?_);refine OG (OW yY.plain F.entry_bexc_ga (Cu X I J (MJ h (fun fin s' z=>?_) fun _ _ z=>z.elim)));rcases fin with(_|_|_|_)|_<;>first|exact z|exact z.elim
theorem qE{g a:aC}{U:Tok}{P:aC->b_->Prop}(X:K.In s.heap)(I:y' s.heap x ox C od)(Y:RI K C od name=ar (.bind g a))
  (h:eb (e_ prog w) A (call g [a,.ref x,.ref C]) P E s):
  eb (e_ prog w) A (Builtin.«object.__getattribute__» ⟨[.ref x,.str name U],[]⟩) (fun fin s'=>match fin with| .done (.ret v)=>P v s'|_=>False) E s:=by
 obtain⟨S,T,d,t,os⟩:=s;have Z:=I.type (M:=e_ prog w);have L1:=looks_find (M:=e_ prog w) X I Y;refine LP (LS (LP (LS (LP (Z.at (LP (L1.at ?_)))))));show eb _ _ (A' [a] (call g [a,.ref x,.ref C])>>=ret) _ _ _;exact LP (ME (MJ h (fun v s' z=>LS z) fun _ _ z=>z))
theorem rW{v:aC}{U:Tok}{P:aC->b_->Prop}(X:K.In s.heap)(I:y' s.heap x ox C od)(Y:RI K C od name=ar (.value v))(h:P v s):
  eb (e_ prog w) A (Builtin.«object.__getattribute__» ⟨[.ref x,.str name U],[]⟩) (fun fin s'=>match fin with| .done (.ret v)=>P v s'|_=>False) E s:=by
 obtain⟨S,T,d,t,os⟩:=s;have Z:=I.type (M:=e_ prog w);have L1:=looks_find (M:=e_ prog w) X I Y;refine LP (LS (LP (LS (LP (Z.at (LP (L1.at ?_)))))));exact LS h
structure ExcC(K:Sd)(C:dt):Prop where
 ga:y2 K (.ref C) "__getattribute__"=ar (ar (.builtin "BaseException.__getattribute__"))
 gt:y2 K (.ref C) "__getattr__"=ar none
 be:RE K C (.type "BaseException")=ar bc
 ob:RE K C (.type "object")=ar bc
 cl:y2 K (.ref C) "__class__"=ar (ar (.builtin "object.__class__"))
 gs:specialIn K (.builtin "object.__class__") "__get__"=ar (ar (.builtin "getset_descriptor.__get__"))
 tk:takesIn K (.builtin "object.__class__")=ar bc
 cd:(R9 K C).isSome=bc
 mf:y2 K (.ref C) "many"=ar none
 ms:y2 K (.ref C) "most"=ar none
def Cw(K:Sd)(C:dt):Bool:=(y2 K (.ref C) "__getattribute__"==ar (ar (.builtin "BaseException.__getattribute__"))) && (y2 K (.ref C) "__getattr__"==ar none) && (RE K C (.type "BaseException")==ar bc) &&
 (RE K C (.type "object")==ar bc) && (y2 K (.ref C) "__class__"==ar (ar (.builtin "object.__class__"))) && (specialIn K (.builtin "object.__class__") "__get__"==ar (ar (.builtin "getset_descriptor.__get__"))) &&
 (takesIn K (.builtin "object.__class__")==ar bc) && (R9 K C).isSome && (y2 K (.ref C) "many"==ar none) && (y2 K (.ref C) "most"==ar none)
theorem ExcC.of(h:Cw K C=bc):ExcC K C:=by
 unfold Cw at h;simp only[h_,beq_iff_eq]at h;obtain⟨⟨⟨⟨⟨⟨⟨⟨⟨W,Y⟩,Q⟩,R⟩,T⟩,P⟩,S⟩,U⟩,X⟩,Z⟩:=h;exact⟨W,Y,Q,R,T,P,S,U,X,Z⟩
theorem AJ{Q:Option aC->b_->Prop}(c:ExcC K C)(X:K.In s.heap)(I:y' s.heap x ox C od)(h:Q (ar (.ref C)) {s with toks:=s.toks+1}):eb (e_ prog w) A (getAttr? (.ref x) "__class__") Q E s:=by
 have hf:RI K C od "__class__"=ar (.bind (.builtin "getset_descriptor.__get__") (.builtin "object.__class__")):=by
  obtain⟨cd,Z⟩:=MO.mp c.cd;unfold RI;rw[Z,NP,c.cl,NP];simp[c.gs,c.tk]
 unfold getAttr? getAttrBy?;refine LP (wpAny_mkText (LP (N6 (Cv (s:={s with toks:=s.toks+1}) X I c.ga c.gt c.be ?_))));refine qE (s:={s with toks:=s.toks+1}) X I hf ?_;exact OG (class_get (s:={s with toks:=s.toks+1}) (ox:=ox) (od:=od) X I c.ob (handed_on rfl (LS h)))
theorem Cy(c:ExcC K C):KitX K (.ref x) (.ref C) (fun h=>∃ox od,y' h x ox C od) where
 ty:=fun _ _ _ ⟨_,_,I⟩=>I.type
 it:=fun _ _ X _=>by
  have Z:=c.cd;unfold R9 at Z;split at Z
  ·rename_i c' d' cd' sl' ho
   intro U S E' s' k q;unfold isType loadHead;exact LP (wpAny_loadPart (k _ _ (X _ _ ho)) (LS q))
  ·cases Z
 ne:=fun h tp dd its n T X Y=>by
  have Z:=c.cd;refine Pz.mpr fun q=>?_;have e:C=tp:=Value.ref.inj (P7.mp q);subst e;unfold R9 at Z;split at Z
  ·rename_i c' d' cd' sl' ho
   have z:=(X _ _ ho).symm.trans Y;cases z
  ·cases Z
 ca:=fun X ⟨_,_,I⟩ k=>AJ c X I k
end
end S7
namespace S7
open PySem PySem.Spec PyProof.Rows L2 S3
def Cz(e T C:dt)(od:Option dt)(fl:aC)(h:fg):Prop:=
 ∃oe vs oT ts,h.get? e=ar oe/\oe.cls= .ref C/\oe.dict=od/\oe.data= .fields vs/\vs[1]? =ar (.ref T)/\T≠e/\h.get? T=ar oT/\oT.data= .fields ts/\ts[3]? =ar fl
structure Step(fs:List dt)(e T:dt)(h h':fg):Prop where
 keep:∀b o,h.get? b=ar o->b≠e->b≠T->b∉fs->h'.get? b=ar o
 slot:∀b o,h.get? b=ar o->b≠e->b≠T->∃sl,h'.get? b=ar {o with slots:=sl}
 size:h.objs.size<=h'.objs.size
section
variable {M:Ry}{A:gd}{E:aC->b_->Prop}{s:b_}{base:fg}{env:Env}{outer:List Env}{L e T C:dt}{od:Option dt}{fl:aC}{Q:Unit->b_->Prop}
theorem qF(o:Obj)(f:Array aC->Array aC):(y7 f o).dict=o.dict:=by
 obtain⟨c,d,Z,Y⟩:=o;cases Z<;>rfl
theorem entry(I:A.frames=ar (env::outer))(G:s.heap.FunFrames base (env::outer))(w:env.frame=ar L)
  (F:s.heap.get? e=ar oe) (B:oe.cls= .ref C) (z:oe.dict=od) (J:oe.data= .fields vs) (R:1<vs.size)
  (h:∀h' T',Cz e T' C od (m_ L) h'->s.heap.objs.size<=T'->Step (ke (env::outer)) e e s.heap h'->Q () {s with heap:=h'}):
  eb M A (do let a<-frameOf env;let N<-entryPlaceOf L hadNext;let b<-EntryCells.newEntry head a .none (m_ L) .none N;setField (.ref e) 1 b) Q E s:=by
 have W:e∉ke (env::outer):=fun hm=>by obtain⟨_,o,q,H⟩:=G.mem hm;rw[F]at q;cases q;exact H vs J
 refine LP (wpAny_frameOf_fun I G w fun Y Z=>LP (wpAny_entryPlaceOf fun N P=>?_));unfold EntryCells.newEntry newFields;refine LP (Mw (?_ :eb _ _ _ _ _ _) (P.sizeOk5 _ _ _ _ _));have U:Y.get? e=ar oe:=(Z.2.1 e W).trans F;have O:=LQ (h:=Y) {cls:=.type "traceback",dict:=none,data:=.fields ([head,.ref L,.none,m_ L,.none]++(if N.isEmpty then l3 6 hJ else N)).toArray} U;have X:Y.objs.size≠e:=Nn (LZ U);have S:=Nl J (·.setIfInBounds 1 (er Y.objs.size));refine NQ O J R (h _ Y.objs.size ⟨_,_,_,_,MS _ O (N1 S),?_,?_,S,by simp[R],X,(MF _ _ (kr X)).trans (L3 Y rfl),rfl,?_⟩ (Om Z.1.symm) ⟨fun b o q K _ x=>?_,fun b o q K _=>?_,?_⟩)
 ·rw[PC];exact B
 ·rw[qF];exact z
 ·first|(simp;done)|(rcases P with rfl|⟨_,_,_,_,_,_,_,rfl⟩<;>simp)
 ·rw[MF _ _ (kr K)];exact LQ _ ((Z.2.1 b x).trans q)
 ·obtain⟨v,y⟩:=Z.2.2 b o q;exact⟨v,by rw[MF _ _ (kr K)];exact LQ _ y⟩
 ·rw[NR,M5,Z.1];exact Oh _
theorem xT(Z:A.frames=ar (env::outer))(R:s.heap.FunFrames base (env::outer))(U:env.frame=ar L)
  (W:s.heap.get? e=ar oe) (S:oe.cls= .ref C) (P:oe.dict=od) (X:oe.data= .fields vs) (Y:vs[1]? =ar .none)
  (h:∀h' T',Cz e T' C od (m_ L) h'->s.heap.objs.size<=T'->Step (ke (env::outer)) e e s.heap h'->Q () {s with heap:=h'}):eb M A (Qx (.ref e) env) Q E s:=by
 unfold Qx;simp only[U];refine LP (MN W X Y ?_);rw[if_neg (by decide)]
 exact entry Z R U W S P X (Mm.mp Y).1 h
theorem sQ(P:A.frames=ar (env::outer))(G:s.heap.FunFrames base (env::outer))(H:env.frame=ar L)(F:Cz e T C od .none s.heap)
  (h:∀h' X,Cz e X C od (m_ L) h'->s.heap.objs.size<=X->Step (ke (env::outer)) e T s.heap h'->Q () {s with heap:=h'}):eb M A (Qx (.ref e) env) Q E s:=by
 obtain⟨u,vs,t,K,he,x,w,hd,I,R,W,Z,J⟩:=F;have N:3<K.size:=(Mm.mp J).1;unfold Qx;simp only[H];refine LP (MN he hd I ?_);rw[if_pos (show(er T !=hJ)=bc from by simp)]
 refine LP (MN W Z J ?_);rw[if_neg (show ¬ ((hJ==m_ L)=bc)from by simp[m_])]
 refine LP (NQ W Z N ?_);have other:∀b,b≠T->(s.heap.update T (y7 (·.setIfInBounds 3 hJ))).get? b=s.heap.get? b:=fun b B=>MF _ _ (kr B);have S:(s.heap.update T (y7 (·.setIfInBounds 3 hJ))).FunFrames base (env::outer):=G.of_keeps fun b o q O=>⟨o,(other b fun z=>by rw[z,W]at q;cases q;exact O K Z).trans q,rfl⟩
 refine entry (s:={s with heap:=s.heap.update T (y7 (·.setIfInBounds 3 hJ))}) P S H ((other e (kr R)).trans he) x w hd (Mm.mp I).1 fun h' X y l st=>h h' X y ?_ ⟨fun b o q Y U v=>st.keep b o ((other b U).trans q) Y Y v,fun b o q Y U=>st.slot b o ((other b U).trans q) Y Y,?_⟩
 ·have:=l;rwa [NR]at this
 ·have:=st.size;rwa [NR]at this
theorem i8(F:Cz e T C od fl s.heap)(h:∀h',Cz e T C od .none h'->Step [] e T s.heap h'->Q () {s with heap:=h'}):eb M A (setFlight (.ref e) none) Q E s:=by
 obtain⟨N,vs,I,K,he,R,O,hd,S,Y,U,Z,J⟩:=F;have X:3<K.size:=(Mm.mp J).1;refine wpAny_setFlight_none he hd S U Z X (h _ ⟨N,vs,_,_,(MF _ _ Y).trans he,R,O,hd,S,Y,MS _ U (N1 (Nl Z _)),Nl Z _,by simp[X]⟩
  ⟨fun b o q P W _=>(MF _ _ (kr W)).trans q,fun b o q P W=>⟨o.slots,(MF _ _ (kr W)).trans q⟩,?_⟩)
 rw[NR];exact LU _
theorem vR(W:A.frames=ar (env::outer))(R:s.heap.FunFrames base (env::outer))(G:env.frame=ar L)
  (I:s.heap.get? e=ar oe) (S:oe.cls= .ref C) (O:oe.dict=od) (J:oe.data= .fields vs) (N:vs[1]? =ar .none)
  (h:∀h' X,Cz e X C od .none h'->s.heap.objs.size<=X->Step (ke (env::outer)) e e s.heap h'->Q () {s with heap:=h'}):eb M A (Qt env (.ref e)) Q E s:=by
 unfold Qt;refine LP (xT W R G I S O J N fun h' X F l st=>i8 (s:={s with heap:=h'}) F fun U B Y=>h U X B l ⟨fun b o q Z P H=>?_,fun b o q Z P=>?_,Ma st.size Y.size⟩)
 ·exact Y.keep b o (st.keep b o q Z Z H) Z (L7 (Mc (LZ q) l)) (by simp)
 ·obtain⟨z,K⟩:=st.slot b o q Z Z;exact⟨z,Y.keep b _ K Z (L7 (Mc (LZ q) l)) (by simp)⟩
theorem xU(U:A.frames=ar (env::outer))(R:s.heap.FunFrames base (env::outer))(N:env.frame=ar L)(F:Cz e T C od .none s.heap)
  (h:∀h' X,Cz e X C od .none h'->s.heap.objs.size<=X->Step (ke (env::outer)) e T s.heap h'->Q () {s with heap:=h'}):eb M A (Qt env (.ref e)) Q E s:=by
 unfold Qt;refine LP (sQ U R N F fun h' X F l st=>i8 (s:={s with heap:=h'}) F fun S K Z=>h S X K l ⟨fun b o q Y W O=>?_,fun b o q Y W=>?_,Ma st.size Z.size⟩)
 ·exact Z.keep b o (st.keep b o q Y W O) Y (L7 (Mc (LZ q) l)) (by simp)
 ·obtain⟨J,P⟩:=st.slot b o q Y W;exact⟨J,Z.keep b _ P Y (L7 (Mc (LZ q) l)) (by simp)⟩
end
def lg(P:ee)(w:eM):Be:=fun outer H s E x s'=>
 ∃(e T C:dt) (od:Option dt) (H':Hp),x= .ref e/\s'.os=s.os/\y4 s'.gens/\Un (ke outer) [] H H' s.heap s'.heap/\gR P w H' s'.heap/\Cz e T C od .none s'.heap/\
  H' e=none/\H' T=none/\s.heap.get? e=none/\s.heap.get? T=none/\E (.ref C) od H'
theorem sR{X:Cx}:pX (lg X.prog X.w) X E0:=fun _ _ _ _ _ _ _ ⟨_,_,_,_,_,_,_,_,_,_,_,_,_,_,_,h⟩=>h.elim
theorem ir{h:fg}(q:h.get? b=ar o)(n:h.get? e=none):b≠e:=fun z=>by rw[z,n]at q;cases q
theorem Un.fly(u:Un fs [] H H' h h1)(S:Step fs e T h1 h2)(U:h.get? e=none)(X:h.get? T=none):Un fs [] H H' h h2 where
 keep:=fun b o q n hf Z=>S.keep b o (u.keep b o q n hf Z) (ir q U) (ir q X) hf
 slot:=fun b o q n hf Z=>by
  obtain⟨P,R⟩:=u.slot b o q n hf Z;obtain⟨Y,W⟩:=S.slot b _ R (ir q U) (ir q X);exact⟨Y,W⟩
 free:=u.free
 there:=fun b o q Z=>by
  obtain⟨Q,R⟩:=u.there b o q Z;obtain⟨Y,W⟩:=S.slot b _ R (ir q U) (ir q X);exact⟨_,W⟩
 tups:=u.tups
 frzs:=u.frzs
 tbls:=u.tbls
theorem gR.fly{H:Hp}(W:gR P w H h1)(X:Step fs e T h1 h2)(U:H e=none)(Y:H T=none)(S:∀b∈fs,H b=none):gR P w H h2:=fun a o q=>by
 have k:∀b u,H b≠none->h1.get? b=ar u->h2.get? b=ar u:=fun b u n q=>X.keep b u q (fun z=>n (by rw[z];exact U)) (fun z=>n (by rw[z];exact Y)) fun z=>n (S b z)
 refine(W a o q).stay (fun b u Z=>k b u ?_) (fun _ z=>z) fun _ _ z=>z;rcases Z with rfl|Z
 ·rw[q];simp
 ·rw[Z];simp
section
theorem vS(l:List Env)(x:dt)(env:Env)(h:env.frame=ar x):ke (env::l)=x::ke l:=by
 unfold ke;rw[MG,h]
theorem bo.there(x:bo P w H h a o):∃Z,h.get? a=ar Z:=by
 cases o with
 |lst xs=>obtain⟨_,_,_,_,e⟩:=x;exact⟨_,e⟩
 |tup xs=>obtain⟨_,_,_,Z,e,_⟩:=x;exact⟨_,e⟩
 |dK kvs=>obtain⟨_,_,_,_,o,_,_,e,_⟩:=x;exact⟨_,e⟩
 |dT kvs=>obtain⟨_,_,_,_,o,_,_,e,_⟩:=x;exact⟨_,e⟩
 |set S n=>obtain⟨o,_,_,_,e,_⟩:=x;exact⟨_,e⟩
 |ins C dx fs=>obtain⟨_,_,_,e,_⟩:=x;exact⟨_,e⟩
 |own y=>exact x
 |xd fs=>obtain⟨_,⟨_,_,_,e,_⟩,_⟩:=x;exact⟨_,e⟩
 |rng lo hi=>obtain⟨_,_,_,e⟩:=x;exact⟨_,e⟩
 |frz Z u=>obtain⟨e,_⟩:=x;exact⟨_,e⟩
 |tbl ps=>exact⟨_,(show h.get? a=ar _ from x)⟩
 |met f y=>exact⟨_,(show h.get? a=ar _ from x)⟩
 |ext φ=>exact x.2.1
theorem gR.gone{H:Hp}(x:gR P w H h)(e:h.get? a=none):H a=none:=by
 cases q:H a with
 |none=>rfl
 |some o=>
  obtain⟨Z,e2⟩:=bo.there (x a o q);rw[e]at e2;cases e2
theorem Un.gone(u:Un fs ex H H' h h')(Z:a∉ex)(e:h'.get? a=none):h.get? a=none:=by
 cases q:h.get? a with
 |none=>rfl
 |some o=>
  obtain⟨Y,e2⟩:=u.there a o q Z;rw[e]at e2;cases e2
end
abbrev Cx.hand(X:Cx)(e:aC):Cx:={X with A:=X.A.mark (ar e),calm:=c_,xe:=fun _ _=>False}
section
variable {X:Cx}{pins:List (dt×Obj)}{σ:L2.St}{H H':Hp}{s:b_}{x:aC}
theorem Inv.hand(I:Inv X pins σ H s)(e:aC):Inv (Cx.hand X e) pins σ H s:=
 ⟨⟨I.ok.mod,I.ok.kind,I.ok.glob,I.ok.blt,I.ok.above,I.ok.inj,I.ok.has,I.ok.cab,(fun z=>Bool.noConfusion z),I.ok.frames,I.ok.stk,I.ok.exf,I.ok.bs,I.ok.bsz,I.ok.noex,I.ok.exfs,I.ok.funs,I.ok.frf⟩,
  I.os,I.bare,I.base,I.loc,I.cell,I.free,I.freeC,I.pin,I.hok,I.len⟩
theorem Inv.unhand(Z:X.Ok)(I:Inv (Cx.hand X x) pins σ H s):Inv X pins σ H s:=⟨Z,I.os,I.bare,I.base,I.loc,I.cell,I.free,I.freeC,I.pin,I.hok,I.len⟩
theorem Inv.local{Z:L2.St}(I:Inv X pins σ H s)(hs:r7 X.env.locals s.heap h')(Q:h'.Ns X.env.locals m')(U:Z.length=X.N.length)
  (S:∀(i:Nat) (y:Str) (v:V),X.N[i]? =ar y->Z[i]? =ar (ar v)->zY X.env.scope y->∃u,RelV v u/\Look X.env h' m' y u):Inv X pins Z H {s with heap:=h',toks:=t'}:=by
 have ne:∀b o,X.s₀.heap.get? b=ar o->b≠X.env.locals:=fun b o e=>L7 (Mc (LZ e) I.ok.above);refine⟨I.ok,I.os,I.bare,⟨fun b o e n T W=>(hs.2 b (ne b o e)).trans (I.base.keep b o e n T W),fun b o e n T W=>?_,I.base.free,fun b o e W=>?_,I.base.tups,I.base.frzs,I.base.tbls⟩,⟨m',Q,S⟩,fun y c e=>?_,I.free,I.freeC,fun p O=>?_,fun a o e=>?_,U⟩
 ·obtain⟨P,e1⟩:=I.base.slot b o e n T W;exact⟨P,(hs.2 b (ne b o e)).trans e1⟩
 ·obtain⟨R,e1⟩:=I.base.there b o e W;exact⟨R,(hs.2 b (ne b o e)).trans e1⟩
 ·obtain⟨v,z⟩:=I.cell y c e;exact⟨v,z.sameBut hs (I.cne y c e)⟩
 ·obtain⟨e,n,nl,r⟩:=I.pin p O;exact⟨(hs.2 p.1 nl).trans e,n,nl,r⟩
 ·refine(I.hok a o e).stay (fun c L Y q=>(hs.2 c ?_).trans q) (fun _ q=>q) fun _ _ q=>q;rintro rfl;rcases Y with Y|Y
  ·subst Y;rw[I.free]at e;cases e
  ·rw[I.free]at Y;cases Y
theorem EE{M:Ry}{A:gd}{E:aC->b_->Prop}{i:Nat}{y:Str}{pos:Pos}{Q:Unit->b_->Prop}(I:Inv X pins σ H s)(U:X.N.Nodup)(hi:X.N[i]? =ar y)(T:X.env.scope.names.lookup y=ar .local)
  (h:∀s',Inv X pins (σ.set i none) H s'->Q () s'):eb M A (do QJ X.env y .none;unbindBehindTheSuite X.env y pos) Q E s:=by
 obtain⟨m,R,W⟩:=id I.loc;refine wpAny_nameGoes_keeps T R (by rw[I.ok.kind];rfl) fun h' v Z hs=>h _ (Inv.local I hs Z (by rw[M9];exact I.len) fun j z S e1 e2 e3=>?_)
 have Y:j≠i:=by
  rintro rfl;by_cases hlt:j<σ.length
  ·rw[Mo hlt]at e2;cases e2
  ·rw[MX (by rw[M9];omega)]at e2;cases e2
 rw[MW (kr Y)]at e2;obtain⟨u,r,q⟩:=W j z S e1 e2 e3;refine⟨u,r,?_⟩;rcases q with⟨k,e⟩|⟨k,c,e,q⟩
 ·refine .inl ⟨k,?_⟩;have:z≠y:=fun e=>Y (pU U e1 (e ▸ hi));simp[this,e]
 ·exact .inr ⟨k,c,e,q.sameBut hs (I.cne z c e)⟩
end
theorem Un.track{X:Hp}(u:Un fs [] H X h h')(Y:X e=none)(T:h.get? e=none):Un fs [] H (upd X e o) h h' where
 keep:=u.keep
 slot:=u.slot
 free:=fun b Z q n W=>by rw[aI (ir q T)];exact u.free b Z q n W
 there:=u.there
 tups:=fun b xs q=>by have:=u.tups b xs q;rw[aI (aR this Y)];exact this
 frzs:=fun b Z x q=>by have:=u.frzs b Z x q;rw[aI (aR this Y)];exact this
 tbls:=fun b U q=>by
  obtain⟨more,this⟩:=u.tbls b U q;exact⟨more,by rw[aI (aR this Y)];exact this⟩
theorem gR.track{H:Hp}(X:gR P w H h)(Y:H e=none)(Z:bo P w (upd H e o) h e o):gR P w (upd H e o) h:=fun b u q=>by
 by_cases hb:b=e
 ·subst hb;rw[aV]at q;cases q;exact Z
 ·rw[aI hb]at q;exact(X b u q).stay (fun c v _ q=>q) (fun c q=>by rw[aI (aR q Y)];exact q) fun c xs q=>by rw[aI (aR q Y)];exact q
theorem EF(F:Cz e T C od fl h):bo P w H h e (.ext (mI C e od)):=by
 obtain⟨Z,vs,U,W,he,Y,X,hd,_⟩:=F;refine⟨⟨Z,vs,he,Y,X,hd⟩,⟨Z,he⟩,?_⟩;rintro h1 h2 ⟨Z,vs,he,r⟩ k;exact⟨Z,vs,k _ he,r⟩
structure LamOk(P:ee)(w:eM)(K:dV)(mg:Str->Option aC)(base:fg)(k:Nat)(f:dt)(sp:Hp->VK->XK->Prop):Prop where
 fn:∃o fd,base.get? f=ar o/\o.data= .func fd
 run:∀(A:gd) (outer:List Env) (s:b_) (H:Hp) (Q:VK) (E:XK),Room k A->aQ P w K mg base A outer s H->sp H Q E->B_ (e_ P w) A (.call (.ref f) ⟨[],[]⟩) (CR (lg P w) outer P w H s Q E) s
section
variable {X:Cx}{k i jn jy:Nat}{f CW:dt}{sp:Hp->VK->XK->Prop}{x c n y:Str}{p cpos epos np p1 p2 p3 hpos tpos:Pos}
theorem sS(E:X.stack=X.env::X.outer)(b6:X.env.frame=ar X.env.locals)(L:LamOk X.prog X.w X.K X.mg X.base k f sp)(hr:Room k X.A)(hN:X.N.Nodup)(hi:X.N[i]? =ar x)(hv:zY X.env.scope x)
  (S:X.N[jn]? =ar n) (c1:X.N[jy]? =ar y) (R:X.env.scope.names.lookup n=ar .local) (b0:X.env.scope.names.lookup y=ar .local) (hg:Gl X c) (hm:X.mg c=ar (.ref CW))
  (hd:(x==("__debug__":Str))=false:=by decide) (b5:(x==("__classdict__":Str))=false:=by decide) (d1:(c==("__debug__":Str))=false:=by decide) (b3:(n==("__debug__":Str))=false:=by decide) (j:(n==("__classdict__":Str))=false:=by decide)
  (d0:ly (.Call (.Name x p) [] [] cpos) none epos.line X.env=a_ false:=by rfl) (b1:ly (.Name n p2) (ar (.Name y p1)) p3.line X.env=a_ false:=by rfl):
  PS X (.Try [.Expr (.Call (.Name x p) [] [] cpos) epos] [.ExceptHandler (ar (.Name c np)) (ar n) [.Assign [.Name y p1] (.Name n p2) p3] hpos] [] [] tpos)
   (fun D σ H=>σ[i]? =ar (ar (.ref f))/\sp H (fun _ Y=>D.nx σ Y) (fun cls od Y=>∃C,cls= .ref C/\RS X.K (.ref C) (.ref CW)=ar bc/\∀e,Y e=none->D.nx (((σ.set jn (ar (.ref e))).set jy (ar (.ref e))).set jn none) (upd Y e (.ext (mI C e od))))):=by
 intro pins s σ H D I ⟨hσ,hsp⟩;refine wpAny_Try_except (PP (wpAny_Expr_any ?_ I.quiet d0));refine NT (MJ (tN (X:=X.nox) hi hv hd b5 pins s σ H (fun v Y=>v= .ref f/\Y=H) (I.wish _) ⟨_,hσ,rfl,rfl⟩) (fun u s1 b4=>?_) fun _ _ z=>g_ z);obtain⟨v,Y,O,r1,ev,eH⟩:=b4;subst ev eH;obtain rfl:u=er f:=r1;have O:=O.unwish;obtain⟨o,fd,ho,m⟩:=L.fn;refine callWith_meth0 m (O.bk f o ho) (OG (NC (L.run X.A X.stack s1 Y _ _ hr O.env0 hsp) fun r s' U=>?_));cases r with
 | ok fl=>
  cases fl with
  |ret u=>
   obtain⟨v,H2,I2,_,q⟩:=O.after U;exact NX (NX ⟨σ,H2,I2,q⟩)
  |next=>exact g_ U
  |brk=>exact g_ U
  |cont=>exact g_ U
 | error ev=>
  obtain⟨e,T,C',od,Z,rfl,os,bare,un,G,F,ne,nT,le,lT,C,eC,hx,hD⟩:=U;cases eC;have I2:L2.Inv X pins σ Z s':=O.call' (ch:=[]) os un G bare (fun b z=>absurd z (by simp))
  have c2:∀b∈ke X.stack,Z b=none:=I2.stkFree;refine sQ (base:=X.base) (outer:=X.outer) (by rw[I2.ok.frames,E]) (by rw[<-E];exact I2.stack) b6 F fun h1 T1 F1 l1 J=>?_
  rw[<-E]at J;have l:Z T1=none:=G.fresh l1;refine i8 (s:={s' with heap:=h1}) F1 fun B F2 a6=>?_;have d:s1.heap.get? T1=none:=Un.gone un (by simp) (MV l1)
  have a5:gR X.prog X.w Z h1:=gR.fly G J ne nT c2;have Q:gR X.prog X.w Z B:=gR.fly a5 a6 ne l (fun b z=>absurd z (by simp))
  have c5:Un (ke X.stack) [] Y Z s1.heap h1:=Un.fly un J le lT;have P:∀{h a:fg} {e T:dt},Step [] e T h a->Step (ke X.stack) e T h a:=fun st=>⟨fun b o q n1 n2 _=>st.keep b o q n1 n2 (by simp),st.slot,st.size⟩
  have t:Un (ke X.stack) [] Y Z s1.heap B:=Un.fly c5 (P a6) le d;have I3:L2.Inv X pins σ Z {s' with heap:=B}:=O.call' (s':={s' with heap:=B}) (ch:=[]) os t Q bare (fun b z=>absurd z (by simp))
  refine wpAny_handleBy_cons (codeAny_handlers_test (kR (X:=Cx.hand X (.ref e)) (Inv.hand I3 _) hg hm ?_ d1)) (by intro q;cases q)
  have LT:W.Looks (e_ X.prog X.w) B (typeOf (.ref e)) (.ref C'):=by
   obtain⟨oe,vs,oT,ts,he,hc,_⟩:=F2;exact hc ▸ (W.Looks.ld he).andThen .now
  refine(W.exm_one (h:=B) I3.kIn LT hx).at ?_;refine codeAny_handlers_suite_as (i8 (s:={s' with heap:=B}) F2 fun h3 F3 g=>?_);have a4:gR X.prog X.w Z h3:=gR.fly Q g ne l (fun b z=>absurd z (by simp))
  have c7:Un (ke X.stack) [] Y Z s1.heap h3:=Un.fly t (P g) le d;have I4:L2.Inv X pins σ (upd Z e (.ext (mI C' e od))) {s' with heap:=h3}:=
   O.call' (s':={s' with heap:=h3}) (ch:=[]) os (Un.track c7 ne le) (gR.track a4 ne (EF F3)) bare (fun b z=>absurd z (by simp))
  refine kf (X:=X) I4 hN S (.inl R) (v:=.ref e) rfl (fun s5 I5=>?_) (.inr R);have hl:jn<σ.length:=by rw[I.len];exact(LX.mp S).1
  have ps:=tO (Bl (X:=Cx.hand X (.ref e)) (pos:=p3) (pos':=p1) hN c1 (.inl b0) (tN (X:=Cx.hand X (.ref e)) (pos:=p2) S (.inl R) b3 j) b1 (.inr b0));refine MJ (ps pins s5 _ _ {nx:=fun a3 H6=>a3=(σ.set jn (ar (.ref e))).set jy (ar (.ref e))/\H6=upd Z e (.ext (mI C' e od)),rt:=fun _ _=>False} (Inv.hand I5 _) ⟨.ref e,by rw[Mo hl],rfl,rfl⟩) (fun fl s6 U=>?_) fun _ _ z=>g_ z
  cases fl with
  |next=>
   obtain⟨a3,H6,I6,e1,e2⟩:=U;subst e1 e2;exact EE (Inv.unhand I.ok I6) hN S R fun s7 I7=>⟨_,_,I7,hD e ne⟩
  |ret u=>obtain⟨_,_,_,_,_,z⟩:=U;exact g_ z
  |brk=>obtain⟨_,_,_,z⟩:=U;exact g_ z
  |cont=>obtain⟨_,_,_,z⟩:=U;exact g_ z
end
structure BaseL(K:dV)(mg:Str->Option aC)(base:fg):Prop where
 bm:∃bm ob,mg "__builtins__"=ar (.ref bm)/\bm≠v_/\base.get? bm=ar ob/\ob.cls= .type "module"/\ob.dict=ar v_/\ob.data= .plain
 cd:∀x∈cI,∀c P,mv K x=ar (c,P)->Ql base c P
def qG(K:dV):Prop:=∀x∈cI,∀y∈cI,∀c d P,mv K x=ar (c,P)->mv K y=ar (d,P)->x=y
theorem xV(l:List aC)(h:RC l)(e:L0 pos (l++[m_ a,m_ b,c])=ar v):L0 pos l=ar v\/v=c:=by
 fun_induction RC l with
 |case1=>
  have Z:(if a==(pos.line:Int) && b==(pos.col:Int)then ar c else none)=ar v:=e;split at Z
  ·exact .inr (Mn Z).symm
  ·cases Z
 |case2 a' t b' u x rest ih=>
  simp only[List.cons_append,L0]at e⊢;split at e
  ·next hq=>rw[if_pos hq];exact .inl e
  ·next hq=>rw[if_neg hq];exact ih h e
 |case3 l h1 h2=>exact h.elim
section
variable {X:Cx}{pins:List (dt×Obj)}{σ:L2.St}{H:Hp}{s:b_}{x ql:Str}{c P:dt}{params:Qu}{body:Expr}{scope:Scope}{pos:Pos}{clos:List (Str×dt)}{Q:aC->b_->Prop}{E:aC->b_->Prop}{A:gd}
theorem Hy(hx:x∈cI)(ht:mv X.K x=ar (c,P))(L:X.env.code= .ref c)(hq:X.env.qual++"<lambda>"=ql)(l:ql=x++".<locals>.<lambda>")(B:BaseL X.K X.mg X.base)(TI:qG X.K)(j:Rn scope X.env=a_ clos)
  (m:defaultsOf params X.env=([],[])) (I:L2.Inv X pins σ H s) (T:TabsOk X.K H)
  (h:∀f Z Y pm H1 s1,L2.Inv X pins σ H1 s1->s.heap.objs.size<=f->s1.heap.get? f=ar (y3 "<lambda>" ql params body scope clos pm Z Y)->H1 f=none->H1 Z=ar (.ext (rP ql Z))->
   (∀a o,H a=ar o->(∀G,o≠ .tbl G)->H1 a=ar o)->(∀a,H a=none->H1 a≠none->s.heap.objs.size<=a)->TabsOk X.K H1->Q (.ref f) s1):
  eb (e_ X.prog X.w) A (gg (.Lambda params body scope pos) X.env) Q E s:=by
 refine W.kla_eval m ?_;rw[hq];obtain⟨G,O,hT,hA⟩:=T x hx c P ht;have C:Ql s.heap c P:=(B.cd x hx c P ht).keeps I.bk;have oP:s.heap.get? P=ar (w_ G):=I.hok P _ O;have hg:s.heap.Ns f' X.mg:=I.mod.glob.keeps I.bk;have U:∀b,H b=none->b≠P:=fun b n z=>by rw[z,O]at n;cases n
 have gP:f'≠P:=by
  obtain⟨o,es,ep,e,_⟩:=I.mod.glob;exact U _ (I.bs _ _ e).2
 have hb:s.heap.BuiltinsAt X.mg P:=by
  obtain⟨bm,ob,b1,b2,b3,b4,b5,b6⟩:=B.bm;refine⟨bm,ob,b1,b2,fun z=>?_,U _ (I.bs _ _ b3).2,I.bk _ _ b3,b4,b5,b6⟩;obtain⟨o,es,ep,e,hd,_⟩:=I.mod.glob;rw[z,e]at b3;cases b3;rw[hd]at b6;cases b6
 cases hn:L0 pos G.toList with
 |some cv=>
  obtain⟨Z,rfl,i⟩:=hA pos cv hn;rw[<-l]at i;refine W.kla_makeFunctionHit j I.ok.glob hg L C oP hT hn hb fun Y h' tk hk a4=>?_;have S:∀b o,s.heap.get? b=ar o->(h'.push {cls:=.type "function",data:=.func (RT "<lambda>" ql params body scope clos ((X.mg "__name__").getD .none) (.ref Z) Y)}).get? b=ar o:=fun b o e=>LQ _ (hk b o e);exact h _ Z Y _ H _ (I.kept (t':=tk) S) a4 (L3 _ rfl) (I.hok.fresh a4) i (fun a o e _=>e) (fun a n z=>absurd n z) T
 | none=>
  refine W.kla_makeFunction j I.ok.glob hg L C oP hT hn gP hb fun Z Y h' tk hX J F a0 c6=>?_;have nc:H Z=none:=I.hok.fresh J;have cP:P≠Z:=fun z=>by rw[<-z,O]at nc;cases nc
  have S:∀b o,b≠P->s.heap.get? b=ar o->(h'.push (y3 "<lambda>" ql params body scope clos ((X.mg "__name__").getD .none) Z Y)).get? b=ar o:=fun b o n e=>LQ _ (hX b o n e);have a5:(h'.push (y3 "<lambda>" ql params body scope clos ((X.mg "__name__").getD .none) Z Y)).get? P=ar (w_ (G++ #[m_ pos.line,m_ pos.col,.ref Z])):=LQ _ c6;have old:∀a o,H a=ar o->a≠P->upd (upd H P (.tbl (G++ #[m_ pos.line,m_ pos.col,.ref Z]))) Z (.ext (rP ql Z)) a=ar o:=fun a o e n=>by rw[aI (aR e nc),aI n];exact e
  have a3:∀b o,s.heap.get? b=ar o->b≠Z:=fun b o e=>L7 (Mc (LZ e) J);have un:Un X.fs [] H (upd (upd H P (.tbl (G++ #[m_ pos.line,m_ pos.col,.ref Z]))) Z (.ext (rP ql Z))) s.heap (h'.push (y3 "<lambda>" ql params body scope clos ((X.mg "__name__").getD .none) Z Y)):=
   ⟨fun b o e n _ _=>S b o (U b n) e,fun b o e n _ _=>⟨o.slots,S b o (U b n) e⟩,fun b o e n _=>by rw[aI (a3 b o e),aI (U b n)];exact n,fun b o e _=>(by
    by_cases z:b=P
    ·subst z;exact⟨_,a5⟩
    ·exact⟨o,S b o z e⟩),fun b xs e=>old b _ e (fun z=>by rw[z,O]at e;cases e),fun b o u e=>old b _ e (fun z=>by rw[z,O]at e;cases e),fun b qs e=>(by
    by_cases z:b=P
    ·subst z;rw[O]at e;cases e;exact⟨_,by rw[aI cP,aV]⟩
    ·exact⟨#[],by rw[old b _ e z];simp⟩)⟩
  have N:rP ql Z (h'.push (y3 "<lambda>" ql params body scope clos ((X.mg "__name__").getD .none) Z Y)):=by
   obtain⟨v,g,vs,t,e1,e2,r⟩:=a0;exact⟨v,g,vs,t,e1,LQ _ e2,r⟩
  have c1:gR X.prog X.w (upd (upd H P (.tbl (G++ #[m_ pos.line,m_ pos.col,.ref Z]))) Z (.ext (rP ql Z))) (h'.push (y3 "<lambda>" ql params body scope clos ((X.mg "__name__").getD .none) Z Y)):=by
   intro a o e;by_cases za:a=Z
   ·subst za;rw[aV]at e;cases e;refine⟨N,?_,?_⟩
    ·obtain⟨v,g,vs,t,e1,e2,_⟩:=N;cases e1;exact⟨g,e2⟩
    ·rintro h1 h2 ⟨v,g,vs,t,e1,e2,r⟩ k;cases e1;exact⟨a,g,vs,t,rfl,k _ e2,r⟩
   ·rw[aI za]at e;by_cases zP:a=P
    ·subst zP;rw[aV]at e;cases e;exact a5
    ·rw[aI zP]at e;refine(I.hok a o e).stay (fun b u R q=>S b u ?_ q) (fun b q=>old b _ q (fun z=>by rw[z,O]at q;cases q)) fun b xs q=>old b _ q (fun z=>by rw[z,O]at q;cases q)
     rintro rfl;rcases R with R|R
     ·exact zP R.symm
     ·rw[O]at R;cases R
  refine h _ Z Y _ _ _ (I.un (t':=tk) un c1) (Ma J (Nu F)) (L3 _ rfl) ?_ aV (fun a o e n=>old a o e (fun z=>by rw[z,O]at e;cases e;exact n _ rfl)) (fun a n z=>?_) fun y hy d P' e=>?_
  ·have:H h'.objs.size=none:=I.hok.fresh (Ma J (Nu F));rw[aI (kr (L7 F)),aI (U _ this)];exact this
  ·by_cases za:a=Z
   ·rw[za];exact J
   ·rw[aI za,aI (U a n)]at z;exact absurd n z
  ·by_cases zP:P'=P
   ·subst zP;obtain rfl:y=x:=TI y hy x hx d c P' e ht;refine⟨_,by rw[aI cP,aV],?_,fun p cv q=>?_⟩
    ·have:=TriplesOk_snoc pos.line pos.col (.ref Z) G.toList hT;simpa using this
    ·have q':L0 p (G.toList++[m_ pos.line,m_ pos.col,.ref Z])=ar cv:=by simpa using q
     rcases xV _ hT q' with q2|q2
     ·obtain⟨v,e1,e2⟩:=hA p cv q2;exact⟨v,e1,old _ _ e2 (fun z=>by rw[z,O]at e2;cases e2)⟩
     ·exact⟨Z,q2,by rw[<-l];exact aV⟩
   ·obtain⟨qs,g1,g2,g3⟩:=T y hy d P' e;exact⟨qs,old _ _ g1 zP,g2,fun p cv q=>let ⟨v,e1,e2⟩:=g3 p cv q;⟨v,e1,old _ _ e2 (fun z=>by rw[z,O]at e2;cases e2)⟩⟩
end
def K8(K:dV)(ι:List dt)(H:Hp)(x:D)(cls:aC)(od:Option dt):Prop:=
 ∃n ds C,x= .exc n ds/\pb K f' n=ar (ar (.ref C))/\cls= .ref C/\
  ((od=none/\ds=[])\/∃dx fs,od=ar dx/\H dx=ar (.xd fs)/\fs.map (·.1)=([("many":Str),("most":Str)]:List Str)/\RelDs K ι H ds (fs.map (·.2)))
def vT(K:dV)(Ek:XK):XD:=fun x ι _ H=>∀cls od,K8 K ι H x cls od->Ek cls od H
def CA(K:dV)(F:List D->M D):Sp:=fun vs H Q Ek=>∃ ι S ds,Rep K ι H S/\RelDs K ι H ds vs/\cont K (vT K Ek) (F ds) ι S H (kT K Q)
theorem CB{K:dV}{E E':XD}{α:Type}{c:M α}{ι:List dt}{S:aF}{H:Hp}{Q:α->List dt->aF->Hp->Prop}(h:cont K E c ι S H Q)(k:∀x ι' Z H',E x ι' Z H'->E' x ι' Z H'):cont K E' c ι S H Q:=by
 obtain⟨r,Z,e,q⟩:=h;refine⟨r,Z,e,fun Y X U rep1=>?_⟩;have:=q Y X U rep1;cases r with
 |ok a=>exact this
 |ex x=>exact k x _ _ _ this
def o9{α:Type}(c:M α):M α:=fun S=>match c S with
 |some (.ok a,S')=>ar (.ok a,S')
 |_=>none
theorem sT{K:dV}{E:XD}{α:Type}{c:M α}{ι:List dt}{S:aF}{H:Hp}{Q:α->List dt->aF->Hp->Prop}(h:cont K E (o9 c) ι S H Q):cont K gh c ι S H Q:=by
 obtain⟨r,Y,e,q⟩:=h;unfold o9 at e;cases z:c S with
 |none=>rw[z]at e;cases e
 |some p=>
  obtain⟨Z,S1⟩:=p;rw[z]at e;cases Z with
  |ok a=>cases e;exact⟨_,_,z,q⟩
  |ex x=>cases e
section
variable {X:Cx}{E:XD}
theorem uF{m:TM}(h:SE X gh e m):SE X E e (fun ρ=>o9 (m ρ)):=PE.imp h fun _ _ _ ⟨ι,S,ρ,rep,re,c⟩=>⟨ι,S,ρ,rep,re,sT c⟩
theorem vU{Z:List p4}{m:cJ}(h:vn X gh Z m):vn X E Z (fun ρ=>o9 (m ρ)):=rJ.imp h fun _ _ _ ⟨ι,S,ρ,rep,re,c⟩=>⟨ι,S,ρ,rep,re,sT c⟩
theorem uG{Z:List p4}{m:cJ}(h:vn X.nox gh Z m):vn X gh Z m:=rJ.nox h
end
structure Leaves(X:Cx)(Ek:XK):Prop where
 st:X.stack=X.env::X.outer
 fm:X.env.frame=ar X.env.locals
 ex:X.ex=[]
 xe:∀e s',eb (e_ X.prog X.w) X.A (Qt X.env e) (fun _ s''=>lg X.prog X.w X.outer X.H₀ X.s₀ Ek e s'') (fun e' s''=>lg X.prog X.w X.outer X.H₀ X.s₀ Ek e' s'') s'->X.xe e s'
 ow:Qs (e_ X.prog X.w) X.A X.env X.xe
section
variable {X:Cx}{Ek:XK}
theorem Leaves.pass(L:Leaves X Ek):pX (lg X.prog X.w) X Ek:=by
 rintro pins σ H s x s' I ⟨e,T,C,od,H',rfl,os,bare,un,hok,F,ne,nT,le,lT,hE⟩;have U:L2.Inv X pins σ H' s':=I.call' (ch:=[]) os un hok bare (fun b z=>absurd z (by simp))
 refine L.xe _ _ (xU (base:=X.base) (outer:=X.outer) (by rw[U.ok.frames,L.st]) (by rw[<-L.st];exact U.stack) L.fm F fun h' P Q l st=>?_)
 rw[<-L.st]at st;have Y:gR X.prog X.w H' h':=gR.fly hok st ne nT U.stkFree;have S:Un (ke X.stack) [] H H' s.heap h':=Un.fly un st le lT;have W:L2.Inv X pins σ H' {s' with heap:=h'}:=I.call' (s':={s' with heap:=h'}) (ch:=[]) os S Y bare (fun b z=>absurd z (by simp))
 have R:=W.base;have h0:=I.base;have Z:=U.base;rw[L.ex]at R h0 Z;exact⟨e,P,C,od,H',rfl,W.os,W.bare,R,W.hok,Q,ne,hok.fresh l,Un.gone h0 (by simp) le,Un.gone Z (by simp) (MV l),hE⟩
theorem Leaves.new{H:Hp}(L:Leaves X Ek)
  (I:L2.Inv X pins σ H s') (O:s'.heap.get? e=ar oe) (J:oe.cls= .ref C) (F:oe.dict=od) (B:oe.data= .fields vs) (E:vs[1]? =ar .none) (P:H e=none) (hs:X.s₀.heap.get? e=none) (G:Ek (.ref C) od H):X.xe (.ref e) s':=by
 refine L.xe _ _ (vR (base:=X.base) (outer:=X.outer) (by rw[I.ok.frames,L.st]) (by rw[<-L.st];exact I.stack) L.fm O J F B E fun h' K N l st=>?_)
 have Q:∀b∈ke (X.env::X.outer),H b=none:=by rw[<-L.st];exact I.stkFree
 have Y:gR X.prog X.w H h':=gR.fly I.hok st P P Q;have Z:=I.base;rw[L.ex]at Z;have R:∀b o,X.s₀.heap.get? b=ar o->b∉ke X.outer->b∉ke (X.env::X.outer):=fun b o q n z=>by
  rw[vS X.outer X.env.locals _ L.fm]at z;rcases Me.mp z with z|z
  ·exact absurd (LZ q) (by rw[z];exact Qi.mpr I.ok.above)
  ·exact n z
 have ne:∀b o,X.s₀.heap.get? b=ar o->b≠e:=fun b o q=>ir q hs;refine⟨e,K,C,od,H,rfl,I.os,I.bare,⟨fun b o q n hf W=>?_,fun b o q n hf W=>?_,Z.free,fun b o q W=>?_,Z.tups,Z.frzs,Z.tbls⟩,Y,N,P,I.hok.fresh l,hs,Un.gone Z (by simp) (MV l),G⟩
 ·exact st.keep b o (Z.keep b o q n hf W) (ne b o q) (ne b o q) (R b o q hf)
 ·obtain⟨y,S⟩:=Z.slot b o q n hf W;obtain⟨U,T⟩:=st.slot b _ S (ne b o q) (ne b o q);exact⟨U,T⟩
 ·obtain⟨A,S⟩:=Z.there b o q W;obtain⟨U,T⟩:=st.slot b _ S (ne b o q) (ne b o q);exact⟨_,T⟩
theorem cb{P:ee}{w:eM}{K:dV}{Y:Str->Option aC}{base:fg}{N:List Str}{qual:Str}{scope:Scope}{f:dt}{Z:aC}{A:gd}{outer:List Env}{s₀:b_}{H₀:Hp}:
  Leaves (jH (lg P w) P w K Y base N qual scope f Z A outer s₀ H₀ Ek) Ek:=⟨rfl,rfl,rfl,fun _ _ h=>h,PassesOwn.leaving⟩
end
structure DefX(P:ee)(w:eM)(K:dV)(mg:Str->Option aC)(base:fg)(k:Nat)(x:Str)(ps:List Str)(F:List D->M D):Prop where
 ex:∃f fd,FnOk P w K mg base (lg P w) k f fd ps (CA K F)/\mg x=ar (.ref f)/\z3 K (.ref f)=bc/\Binds K fd ps []
section
variable {P:ee}{w:eM}{K:dV}{mg:Str->Option aC}{base:fg}
theorem Hz{x qual:Str}{X:p4}{f:dt}{E:fc}{N U:List Str}{k:Nat}{m:cJ}(F:Fun K x qual X f E)(B:FnScope N U (au X))
  (R:∀(Z:aC) (A:gd) (outer:List Env) (s:b_) (H:Hp) (Y:XK),Room k (A.deeper (y1 qual (au X) s.heap.objs.size f Z))->QN K Z qual=bc->(∃I od T kV doc pm an ct,K.lookup f=ar ⟨I,od,.func (D_ x qual (i4 X) (dC X) (au X) .none kV doc pm an Z ct),T⟩)->
   vn (jH (lg P w) P w K mg base N qual (au X) f Z A outer s H Y) (vT K Y) (dC X) m):FnOk P w K mg base (lg P w) (k+1) f E U (CA K (oA N.length U.length m)):=by
 have key:∀{vs:List V} {H:Hp} {Q:VK} {Y:XK},CA K (oA N.length U.length m) vs H Q Y->vs.length=U.length/\∃ ι S ds,Rep K ι H S/\RelDs K ι H ds vs/\cont K (vT K Y) (do let o<-m (ds.map ar++l3 (N.length - U.length) none);outD o) ι S H (kT K Q):=by
  rintro vs H Q Y ⟨ι,S,ds,rep,r,c⟩;unfold oA at c;by_cases O:ds.length=U.length
  ·rw[if_pos O]at c;exact⟨by rw[<-r.length];exact O,ι,S,ds,rep,r,c⟩
  ·rw[if_neg O]at c;exact(ah c).elim
 obtain⟨I,od,kV,doc,pm,an,Z,ct,T,rfl,G,L⟩:=F.ex;refine Bw G L B (fun vs H Q Y h=>(key h).1) fun A outer s H vs Q Y y h=>⟨_,R Z A outer s H Y y L ⟨I,od,T,kV,doc,pm,an,ct,G⟩,?_⟩;obtain⟨O,ι,S,ds,rep,r,c⟩:=key h;refine⟨ι,S,_,rep,?_,az (aq c) fun o z S1 v e1 rep1 J=>?_⟩
 ·have:=RelE.start r (N.length - U.length);unfold L2.start;rw[O];exact this
 ·cases o with
  |nx ρ=>exact fun C _=>aj J .refl rep1 _ .non
  |ret d=>exact aj J .refl rep1
  |bk ρ=>exact(ah J).elim
  |ct ρ=>exact(ah J).elim
end
section
variable {X:Cx}{Ek:XK}{e:Expr}{es:List Expr}{pos:Pos}{ms:aQ->M (List D)}
theorem de(d:DefX X.prog X.w X.K X.mg X.base k x ps F)(C:Room k X.A)(U:pX (lg X.prog X.w) X Ek)(T:SA X (vT X.K Ek) (e::es) ms)(N:Gl X x:=by rfl)
  (Z:(x==("__debug__":Str))=false:=by decide) (O:d_ (e::es) X.env=(c_,gg e X.env)::d_ es X.env:=by rfl) (W:(pa pos (d_ es X.env)).any (·.1)=false:=by rfl):
  SE X (vT X.K Ek) (.Call (.Name x p) (e::es) [] pos) (av F ms):=by
 obtain⟨f,fd,G,hm,R,L⟩:=d.ex;refine PE.imp (tP G C N hm R L (.nil) (E:=Ek) U T Z O W) fun σ H Q h=>?_;obtain⟨ι,S,ρ,rep,re,c⟩:=h;refine⟨ι,S,ρ,rep,re,az (aq c) fun ds Y S1 P e1 rep1 J vs I=>?_⟩;show CA X.K F (vs++[]) P Q Ek;rw[MI];exact⟨Y,S1,ds,rep1,I,J⟩
theorem aK(d:DefX X.prog X.w X.K X.mg X.base k x ps F)(I:Room k X.A)(T:SA X gh (e::es) ms)(O:Gl X x:=by rfl)
  (Z:(x==("__debug__":Str))=false:=by decide) (P:d_ (e::es) X.env=(c_,gg e X.env)::d_ es X.env:=by rfl) (W:(pa pos (d_ es X.env)).any (·.1)=false:=by rfl):
  SE X gh (.Call (.Name x p) (e::es) [] pos) (av F ms):=by
 obtain⟨f,fd,G,hm,U,N⟩:=d.ex;refine PE.imp (tP G I O hm U N (.nil) (E:=E0) sR T Z P W) fun σ H Q h=>?_;obtain⟨ι,S,ρ,rep,re,c⟩:=h;refine⟨ι,S,ρ,rep,re,az (aq c) fun ds Y S1 R e1 rep1 L vs J=>?_⟩;show CA X.K F (vs++[]) R Q E0;rw[MI];exact⟨Y,S1,ds,rep1,J,CB L fun _ _ _ _ z=>z.elim⟩
end
def a9:List Str:=["WebError","NoWeb","NoPlace","NoPlaces","NoMap","NoSharing","NoRoot","NoNumber","NotJoined","NoTie","NoText","NoLine","NoDeed","TooGreat"]
def br(n y:Str):Bool:=n==y||y=="WebError"
abbrev Iy:List Value:=[.type "ValueError",.type "Exception",.type "BaseException",.type "object"]
def CC(K:dV)(n:Str):Bool:=match pb K f' n with
 | some (ar (.ref C))=>Cw K C && (n=="TooGreat"||RJ K C Iy "ValueError.__new__") && (ri K (.ref C) (.type "ValueError")==ar bc) && (ri K (.type "NoneType") (.ref C)==ar c_) &&
  a9.all (fun y=>match pb K f' y with
   |some (ar (.ref D))=>ri K (.ref C) (.ref D)==ar (br n y) && RS K (.ref C) (.ref D)==ar (br n y)
   |_=>c_)
 |_=>c_
def gF(K:dV):Bool:=a9.all (CC K) && ri K (.type "NoneType") (.type "ValueError")==ar c_
structure ErrAt(K:dV)(n:Str)(C:dt):Prop where
 ns:pb K f' n=ar (ar (.ref C))
 ck:ExcC K C
 pl:n="TooGreat"\/RJ K C Iy "ValueError.__new__"=bc
 ve:ri K (.ref C) (.type "ValueError")=ar bc
 nn:ri K (.type "NoneType") (.ref C)=ar c_
 sub:∀y∈a9,∃D,pb K f' y=ar (ar (.ref D))/\ri K (.ref C) (.ref D)=ar (br n y)/\RS K (.ref C) (.ref D)=ar (br n y)
theorem jj{K:dV}(h:gF K=bc){n:Str}(X:n∈a9):∃C,ErrAt K n C:=by
 unfold gF at h;rw[MH]at h;have Z:=Mf.mp h.1 n X;unfold CC at Z;split at Z
 ·next C e=>
  simp only[h_,vr,beq_iff_eq,x']at Z;obtain⟨⟨⟨⟨a1,a2⟩,T⟩,a4⟩,U⟩:=Z;refine⟨C,e,.of a1,a2,T,a4,fun y Y=>?_⟩;have:=U y Y;split at this
  ·next D eD=>
   simp only[h_,beq_iff_eq]at this;exact⟨D,eD,this.1,this.2⟩
  ·cases this
 ·cases Z
theorem HA{K:dV}(h:gF K=bc):ri K (.type "NoneType") (.type "ValueError")=ar false:=by
 unfold gF at h;rw[MH,P7]at h;exact h.2
theorem EG{K:dV}(X:K.In h)(q:RJ K C Iy "ValueError.__new__"=bc):∃bm N nm qn bs hdct sn sub ab col dd k0 k1 k2 k3 k5 mN,
  h.get? C=ar (wh nm qn C N bs bm hdct sn sub ab col dd k0 k1 k2 k3 k5 "ValueError.__new__")/\h.Ns N mN/\mN "__init__"=none/\Re h Iy bm:=by
 unfold RJ at q;split at q
 case h_2=>cases q
 case h_1 dd cd T ho=>
 split at q
 case h_2=>cases q
 case h_1 C' bm k0 k1 k2 k3 n k5 hm hs=>
 simp only[h_,beq_iff_eq,G']at q;obtain⟨⟨⟨⟨⟨S,en⟩,Z⟩,R⟩,Y⟩,U⟩:=q;subst S en;rcases cd with⟨nm,bs,mro,ns,qn,hd,sn,sub,ab,col,del⟩;dsimp only at hm Z Y U;subst hm Z;obtain rfl:T= #[k0,k1,k2,k3,ar (.builtin "ValueError.__new__"),k5]:=by rcases T with⟨l⟩;simp only at hs;rw[hs]
 exact⟨bm,ns,nm,qn,bs,hd,sn,sub,ab,col,dd,k0,k1,k2,k3,k5,_,X _ _ ho,.of_isNs (W.isNs_of_in X Y),W.nsMap_none_of_in X Y U,W.tail_of_in X R⟩
section
variable {X:Cx}{Ek:XK}{E:XD}
theorem vV(L:Leaves X Ek)(o:X.calm=bc)(b:gF X.K=bc)(f:x∈a9)(A:x≠"TooGreat")(u:SA X (vT X.K Ek) (e::es) ms)(i:Gl X x:=by rfl)
  (O:(x==("__debug__":Str))=false:=by decide) (w:d_ (e::es) X.env=(c_,gg e X.env)::d_ es X.env:=by rfl) (G:(pa cpos (d_ es X.env)).any (·.1)=false:=by rfl):
  SS X (vT X.K Ek) (.Raise (ar (.Call (.Name x np) (e::es) [] cpos)) none pos) (fun ρ=>do let ds<-ms ρ;if ds.length<=lim then M.raise (.exc x [])else M.fail):=by
 intro pins s σ H T I h;obtain⟨ι,S,ρ,rep,re,c⟩:=h;obtain⟨C,B⟩:=jj b f;have m:=B.pl.resolve_left A;have hm:X.mg x=ar (.ref C):=Mb I.mod.kin I.mod.glob B.ns;obtain⟨bm,N,nm,l,bs,hdct,sn,sub,ab,col,dd,k0,k1,k2,k3,k5,mN,g,n,Q,v⟩:=EG I.mod.kin m;refine wpAny_Raise_call_subU (k5:=k5) (k3:=k3) (k2:=k2) (k1:=k1) (k0:=k0) (nm:=nm) (q:=l) (C:=C) (N:=N) (bm:=bm) (bs:=bs) (hdct:=hdct) (sn:=sn) (sub:=sub) (ab:=ab) (col:=col) (dd:=dd) Nt (by decide) Nt (mN:=mN) (v.hasType PySem.F.excBase_ValueError.hasBase) (I.ok.hd o) (by rw[w];show(c_||(pa cpos (d_ es X.env)).any (·.1))=c_;rw[G];rfl) Q (kR I i hm ⟨rfl,?_⟩ O)
 have Y:=u cpos pins s σ H _ I ⟨ι,S,ρ,rep,re,az (aq c) fun ds Z S1 U e1 rep1 R vs J=>(⟨Z,S1,ds,rep1,J,R⟩:∃Z S1 ds,Rep X.K Z U S1/\RelDs X.K Z U ds vs/\cont X.K (vT X.K Ek) (if ds.length<=lim then M.raise (.exc x [])else M.fail) Z S1 U _)⟩;rw[w]at Y⊢;refine OU (MJ Y (fun us s2 P=>?_) fun _ _ z=>z);obtain⟨vs,U,W,p,Z,S1,ds,rep1,J,R⟩:=P;by_cases hl:ds.length<=lim
 ·rw[if_pos hl]at R;refine⟨rfl,?_,W.bk _ _ g,n.keeps W.bk,v.keeps W.bk,fun h' a hm=>?_⟩
  ·show us.length<=sizeLine;rw[<-p.length, <-J.length];exact Ma hl ia
  ·obtain⟨t,d,h2,h3⟩:=hm.there;have k:L2.Inv X pins σ U {s2 with heap:=h'}:=W.kept (t':=s2.toks) hm.keeps;have y:=W.base;rw[L.ex]at y;obtain⟨r',S',r,j⟩:=R;cases r;refine L.new k d rfl rfl rfl rfl (gR.gone W.hok hm.new) (Un.gone y (by simp) hm.new) (j Z U .refl rep1 _ _ ⟨x,[],C,rfl,B.ns,rfl,.inl ⟨rfl,rfl⟩⟩)
 ·rw[if_neg hl]at R;exact(ah R).elim
def vW(f:Str->Bool):D->M D
 | .exc n _=>if n∈a9 then a_ (.bl (f n))else M.fail
 | .non=>a_ (.bl c_)
 |_=>M.fail
theorem AK(x:mI C a od h)(R:od=none\/∃dx fs,od=ar dx/\bo P w H h dx (.xd fs)):∃ox odo,y' h a ox C odo:=by
 obtain⟨Y,vs,e,U,T,hf⟩:=x;have Z:RU Y=true:=by unfold RU;rw[hf]
 rcases R with rfl|⟨dx,fs,rfl,h2⟩
 ·exact⟨Y,none,e,U,Z,by rw[T];trivial⟩
 ·obtain⟨S,e2⟩:=bo.there h2;exact⟨Y,ar S,e,U,Z,by rw[T];exact e2⟩
theorem EH{Q:aC->b_->Prop}(I:L2.Inv X pins σ H s)(r:RelD X.K ι H (.exc n ds) v)(Y:RelV v u)
  (S:gF X.K=bc) (T:n∈a9) (U:∀C,ErrAt X.K n C->ri X.K (.ref C) cv=ar b) (h:∀tk,Q (.bool b) {s with toks:=tk}):eb (e_ X.prog X.w) A (call (.builtin "isinstance") [u,cv]) Q Ex s:=by
 obtain⟨C,Z⟩:=jj S T;have fin:∀{a C2:dt} {od:Option dt},pb X.K f' n=ar (ar (.ref C2))->v= .ref a->mI C2 a od s.heap->(od=none\/∃dx fs,od=ar dx/\bo X.prog X.w H s.heap dx (.xd fs))->eb (e_ X.prog X.w) A (call (.builtin "isinstance") [u,cv]) Q Ex s:=by
  rintro a C2 od e1 rfl ph hd;rw[Z.ns]at e1;cases e1;obtain rfl:u=er a:=Y;exact MU (Cy Z.ck) I.kIn (AK ph hd) (U C Z) (fun z=>nomatch z) h
 cases r with
 |exc e1 e2=>exact fin e1 rfl (I.hok _ _ e2).1 (.inl rfl)
 |excF e1 e2 e3 e4 e5=>exact fin e1 rfl (I.hok _ _ e2).1 (.inr ⟨_,_,rfl,I.hok _ _ e3⟩)
theorem CD{Q:aC->b_->Prop}(I:L2.Inv X pins σ H s)(Z:ri X.K (.type "NoneType") cv=ar c_)(h:∀tk,Q (.bool c_) {s with toks:=tk}):
  eb (e_ X.prog X.w) A (call (.builtin "isinstance") [.none,cv]) Q Ex s:=MU Po I.kIn p7 Z (fun z=>nomatch z) h
theorem yZ{q:Pos}{f:Str->Bool}(z:gF X.K=bc)(t:X.mg "isinstance"=none)(G:SE X E e m)(T:PE X ec (tC vc))(R:∀u,RelV vc u->u=cv)(y:ri X.K (.type "NoneType") cv=ar c_)
  (B:∀n∈a9,∀C,ErrAt X.K n C->ri X.K (.ref C) cv=ar (f n)) (F:Gl X "isinstance":=by rfl)
  (hs:d_ [e,ec] X.env=[(c_,gg e X.env),(c_,gg ec X.env)]:=by rfl) (Z:d_ [ec] X.env=[(c_,gg ec X.env)]:=by rfl):
  SE X E (.Call (.Name "isinstance" p) [e,ec] [] pos) (fun ρ=>do let x<-m ρ;vW f x):=by
 have U:dX X (.builtin "isinstance") (fun xs H Q=>∃x ι d,xs=[x,vc]/\RelD X.K ι H d x/\((d= .non/\Q (.bl c_) H)\/∃n ds,d= .exc n ds/\n∈a9/\Q (.bl (f n)) H)):=by
  intro pins s σ H xs us Q I r h;obtain⟨x,ι,d,rfl,J,A⟩:=h;obtain⟨u,l,rfl,L,P⟩:=vals2 r;cases R _ P;rcases A with⟨rfl,q⟩|⟨n,ds,rfl,hn',q⟩
  ·cases J.non_inv;cases (show u=hJ from L);exact CD I y fun N=>⟨.bl _,H,I.tok N,rfl,q⟩
  ·exact EH I J L z hn' (fun C w=>B n hn' C w) fun N=>⟨.bl _,H,I.tok N,rfl,q⟩
 refine PE.imp (ki U F t (by decide+kernel) (fM G (fM T kh Z) (by rw[hs,Z])) (by decide) (by decide) (by rw[hs,Z]) (by rw[Z];rfl)) fun σ H Q h=>?_
 obtain⟨ι,S,ρ,rep,re,c⟩:=h;refine⟨ι,S,ρ,rep,re,az (aq c) fun x O S1 o e1 rep1 Y v r=>?_⟩;refine⟨v,O,x,rfl,r,?_⟩;cases x with
 |non=>exact .inl ⟨rfl,aj Y .refl rep1 _ (.bl _)⟩
 | exc n ds=>
  dsimp only[vW]at Y;by_cases hn':n∈a9
  ·rw[if_pos hn']at Y;exact .inr ⟨n,ds,rfl,hn',aj Y .refl rep1 _ (.bl _)⟩
  ·rw[if_neg hn']at Y;exact(ah Y).elim
 |_=>exact(ah Y).elim
theorem fw{m:TM}{e:Expr}{y:Str}{p q pos:Pos}(S:gF X.K=bc)(T:y∈a9)(G:Mod X.K X.mg X.base)(O:X.mg "isinstance"=none)(Q:SE X E e m)(P:Gl X "isinstance":=by rfl)(Y:Gl X y:=by rfl)(R:(y==("__debug__":Str))=false:=by decide)
  (hs:d_ [e,.Name y q] X.env=[(c_,gg e X.env),(c_,gg (.Name y q) X.env)]:=by rfl) (U:d_ [.Name y q] X.env=[(c_,gg (.Name y q) X.env)]:=by rfl):
  SE X E (.Call (.Name "isinstance" p) [e,.Name y q] [] pos) (fun ρ=>do let x<-m ρ;vW (fun n=>br n y) x):=by
 obtain⟨C,W⟩:=jj S T;refine yZ (q:=q) (vc:=.ref C) (cv:=.ref C) S O Q (yy Y (Mb G.kin G.glob W.ns) rfl R) (fun u z=>z) W.nn (fun n J N Z=>?_) P hs U;obtain⟨L,e1,e2,_⟩:=Z.sub y T;rw[W.ns]at e1;cases e1;exact e2
theorem EI(T:gF X.K=bc)(Q:X.mg "isinstance"=none)(U:X.mg "ValueError"=none)(S:SE X E e m)(R:Gl X "isinstance":=by rfl)(Y:Gl X "ValueError":=by rfl)
  (hs:d_ [e,.Name "ValueError" q] X.env=[(c_,gg e X.env),(c_,gg (.Name "ValueError" q) X.env)]:=by rfl) (W:d_ [.Name "ValueError" q] X.env=[(c_,gg (.Name "ValueError" q) X.env)]:=by rfl):
  SE X E (.Call (.Name "isinstance" p) [e,.Name "ValueError" q] [] pos) (fun ρ=>do let x<-m ρ;vW (fun _=>bc) x):=
 yZ (q:=q) (vc:=.ty "ValueError") (cv:=.type "ValueError") T Q S (pG Y U (by decide+kernel) rfl) (fun u z=>z) (HA T) (fun n P O Z=>Z.ve) R hs W
end
abbrev kC(ql:Str)(scope:Scope)(f c':dt)(cl:List (Str×dt))(s:b_):Env:=W.envX ql scope s.heap.objs.size f (.ref c') cl
def vX(P:ee)(w:eM)(K:dV)(mg:Str->Option aC)(base:fg)(N:List Str)(ql:Str)(scope:Scope)(f c':dt)(cl:List (Str×dt))(A:gd)(outer:List Env)(s:b_)(H:Hp)(Ek:XK):Cx where
 prog:=P
 w:=w
 K:=K
 mg:=mg
 base:=base
 A:=A.deeper (kC ql scope f c' cl s)
 N:=N
 s₀:=s
 H₀:=H
 env:=kC ql scope f c' cl s
 outer:=outer
 stack:=kC ql scope f c' cl s::outer
 ex:=[]
 calm:=bc
 fn:=fun _=>c_
 pn:=[]
 xe:=fun e s'=>eb (e_ P w) (A.deeper (kC ql scope f c' cl s)) (Qt (kC ql scope f c' cl s) e) (fun _ s''=>lg P w outer H s Ek e s'') (fun e' s''=>lg P w outer H s Ek e' s'') s'
section
variable {P:ee}{w:eM}{K:dV}{mg:Str->Option aC}{base:fg}{N:List Str}{ql:Str}{scope:Scope}{f c':dt}{cl:List (Str×dt)}{params:Qu}{body:Expr}{pm ctv:aC}
theorem iL:Leaves (vX P w K mg base N ql scope f c' cl A outer s H Ek) Ek:=⟨rfl,rfl,rfl,fun _ _ h=>h,PassesOwn.leaving⟩
structure Caps(base:fg)(scope:Scope)(cl:List (Str×dt))(N:List Str)(vs:List V):Prop where
 kind:scope.kind= .function
 nocell:∀y∈scope.names,y.2≠ .cell
 co:scope.isCoroutine=c_
 gen:scope.isGenerator=c_
 inj:∀x y c,cl.lookup x=ar c->cl.lookup y=ar c->x=y
 has:∀x,scope.names.lookup x=ar .free->∃c,cl.lookup x=ar c
 cell:∀x c,cl.lookup x=ar c->∃v,base.IsCell c v
 len:vs.length=N.length
 val:∀(i:Nat) (x:Str) (v:V),N[i]? =ar x->vs[i]? =ar v->scope.names.lookup x=ar .free/\∃c u,cl.lookup x=ar c/\RelV v u/\base.IsCell c (ar u)
def HB(K:dV)(c':dt)(ql:Str)(ds:List D)(vs:List V)(m:TM):Hp->VK->XK->Prop:=fun H Q Ek=>
 ∃ ι S,Rep K ι H S/\H c'=ar (.ext (rP ql c'))/\RelDs K ι H ds vs/\cont K (vT K Ek) (m (ds.map ar)) ι S H (kT K Q)
theorem iu{h h':fg}(x:h.IsCell c v)(k:∀b o,h.get? b=ar o->h'.get? b=ar o):h'.IsCell c v:=let ⟨o,e,r⟩:=x;⟨o,k _ _ e,r⟩
theorem vY:∀{ds:List D} {vs:List V},RelDs K ι H ds vs->RelE K ι H (ds.map ar) (vs.map ar)
 |_,_,.nil=>.nil
 |_,_,.cons r t=>.cons (fun d z=>by cases z;exact⟨_,rfl,r⟩) (vY t)
theorem HC(ho:base.get? f=ar (y3 "<lambda>" ql params body scope cl pm c' ctv))(Y:Caps base scope cl N vs)
  (U:Rj (RT "<lambda>" ql params body scope cl pm (.ref c') ctv) ⟨[],[]⟩=a_ [])
  (T:∀(A:gd) (outer:List Env) (s:b_) (H:Hp) (F:XK),Room k (A.deeper (kC ql scope f c' cl s))->SE (vX P w K mg base N ql scope f c' cl A outer s H F) (vT K F) body m):
  LamOk P w K mg base (k+1) f (HB K c' ql ds vs m):=by
 refine⟨⟨_,_,ho,rfl⟩,fun A outer s H Q F d Z l=>?_⟩;obtain⟨ι,S,rep,h,rd,c⟩:=l;have bk:∀b o,base.get? b=ar o->s.heap.get? b=ar o:=fun b o e=>(Z.bs b o e).1;have t:s.heap.CodeRec (.ref c') ql:=(Z.hok _ _ h).1;refine W.kla_callFunE d.depth (bk _ _ ho) rfl Y.co Y.gen rfl t ?_;rw[U];refine LS (wpAny_newFunctionEnv Y.nocell (fun y hy=>absurd hy (by simp)) (fun h1 n j=>?_) Y.kind)
 have O:∀b o,s.heap.get? b=ar o->h1.get? b=ar o:=fun b o e=>(j.2 b (L7 (LZ e))).trans (LQ _ e);refine⟨(Z.mod.nolimit.keeps bk).keeps O,?_⟩;show B_ _ _ (.expr body (kC ql scope f c' cl s)) _ _;refine W.kla_codeExpr ?_;have X:∀b:dt,b∉([]:List dt):=fun b z=>by cases z
 have B:∀x,scope.names.lookup x≠ar .cell:=fun x e=>Y.nocell _ (bL e) rfl;have I:L2.Inv (vX P w K mg base N ql scope f c' cl A outer s H F) [] (vs.map ar) H {s with heap:=h1,toks:=s.toks+0}:=
  ⟨⟨Z.mod,Y.kind,rfl,rfl,LU _,Y.inj,(fun x L=>by
    rcases L with L|L
    ·exact absurd L (B x)
    ·exact Y.has x L),(fun _ _ z=>Bool.noConfusion z),fun _=>d.hd,Around.frames_deeper Z.frames,.inr ⟨rfl,rfl⟩,fun b z=>absurd z (X b),Z.bs,Z.bsz,fun b _ _=>X b,fun b z=>absurd z (X b),Z.funs,Z.frf⟩,
   rfl,Z.bare,Un.kept O,⟨_,n,fun i x v E R h3=>(by
    have C:vs[i]? =ar v:=by
     rw[Mi]at R;cases q:vs[i]? with
     |none=>rw[q]at R;cases R
     |some a=>rw[q]at R;cases R;rfl
    obtain⟨hf,G,u,e1,e2,e3⟩:=Y.val i x v E C;exact⟨u,e2,.inr ⟨.inr hf,G,e1,iu (iu e3 bk) O⟩⟩)⟩,
   (fun x G e=>let ⟨v,z⟩:=Y.cell x G e;⟨v,iu (iu z bk) O⟩),Z.hok.fresh (LU _),(fun x G e=>let ⟨v,o,z,_⟩:=Y.cell x G e;(Z.bs _ _ z).2),
   (fun p hp=>absurd hp (by simp[vX])),Z.hok.kept O,by rw[LR];exact Y.len⟩
 refine MJ (T A outer s H F (d.deeper _) [] _ (vs.map ar) H Q I ⟨ι,S,ds.map ar,rep,vY rd,c⟩) (fun u s' g=>?_) fun e s' g=>g;obtain⟨v,H',J,r,q⟩:=g;exact⟨v,H',J.os,J.bare,J.base,J.hok,r,q⟩
end
theorem RelE.unset{K:dV}{ι:List dt}{H:Hp}:∀{ρ:S3.aQ} {σ:L2.St} (i:Nat),RelE K ι H ρ σ->RelE K ι H (ρ.set i none) (σ.set i none)
 |_,_,_,.nil=>.nil
 |_,_,0,.cons _ t=>.cons (fun d' z=>by cases z) t
 |_,_,i+1,.cons q t=>.cons q (RelE.unset i t)
def CF(jn jy:Nat)(c:M D)(ρ:S3.aQ):M Out:=fun S=>match c S with
 |some (.ok _,S')=>ar (.ok (.nx ρ),S')
 |some (.ex (.exc n ds),S')=>if n∈a9 then ar (.ok (.nx (((ρ.set jn (ar (.exc n ds))).set jy (ar (.exc n ds))).set jn none)),S')else none
 |_=>none
open Classical in
def vZ(i jn jy:Nat)(f:D)(c:M D):cJ:=fun ρ=>if ρ[i]? =ar (ar f)then CF jn jy c ρ else M.fail
section
variable {X:Cx}{E:XD}{k i jn jy:Nat}{a c':dt}{ql:Str}{ds:List D}{vs:List V}{m:TM}{x n y:Str}{p cpos epos np p1 p2 p3 hpos tpos:Pos}
theorem HD(t:X.stack=X.env::X.outer)(u:X.env.frame=ar X.env.locals)(L:LamOk X.prog X.w X.K X.mg X.base k a (HB X.K c' ql ds vs m))(hr:Room k X.A)(hN:X.N.Nodup)(g:gF X.K=bc)(G:Mod X.K X.mg X.base)(hi:X.N[i]? =ar x)(hv:zY X.env.scope x)
  (J:X.N[jn]? =ar n) (s:X.N[jy]? =ar y) (j:X.env.scope.names.lookup n=ar .local) (o:X.env.scope.names.lookup y=ar .local) (hg:Gl X "WebError")
  (hd:(x==("__debug__":Str))=false:=by decide) (F:(x==("__classdict__":Str))=false:=by decide) (I:(n==("__debug__":Str))=false:=by decide) (Q:(n==("__classdict__":Str))=false:=by decide)
  (l:ly (.Call (.Name x p) [] [] cpos) none epos.line X.env=a_ false:=by rfl) (O:ly (.Name n p2) (ar (.Name y p1)) p3.line X.env=a_ false:=by rfl):
  SS X E (.Try [.Expr (.Call (.Name x p) [] [] cpos) epos] [.ExceptHandler (ar (.Name "WebError" np)) (ar n) [.Assign [.Name y p1] (.Name n p2) p3] hpos] [] [] tpos) (vZ i jn jy (.fn a c' ql ds vs) (m (ds.map ar))):=by
 obtain⟨CW,f⟩:=jj g (show("WebError":Str)∈a9 from .head _);refine PS.imp (sS t u L hr hN hi hv J s j o hg (Mb G.kin G.glob f.ns) hd F (by decide) I Q l O) fun T σ H h=>?_
 obtain⟨ι,S,ρ,rep,re,r,S',e,q⟩:=h;have e:vZ i jn jy (.fn a c' ql ds vs) (m (ds.map ar)) ρ S=ar (r,S'):=e;unfold vZ at e;by_cases hρ:ρ[i]? =ar (ar (.fn a c' ql ds vs))
 case neg=>rw[if_neg hρ]at e;cases e
 rw[if_pos hρ]at e;unfold CF at e;obtain⟨v,e1,rv⟩:=re.get hρ;cases rv with
 | fn hc' rds=>
  refine⟨e1,ι,S,rep,hc',rds,?_⟩;cases z:m (ds.map ar) S with
  |none=>rw[z]at e;cases e
  | some pr=>
   obtain⟨r1,S1⟩:=pr;rw[z]at e;cases r1 with
   |ok d=>
    cases e;exact⟨_,_,z,fun Z U P rep1 v' _=>q Z U P rep1 σ (re.later rep P)⟩
   | ex xd=>
    cases xd with
    | exc nm es=>
     dsimp only at e;split at e
     case isFalse=>cases e
     case isTrue hnm=>
     cases e;refine⟨_,_,z,fun Z U P rep1 cls od rx=>?_⟩;obtain⟨n2,a6,C,e2,Y,rfl,B⟩:=rx;cases e2;obtain⟨C2,b⟩:=jj g hnm;have:=b.ns;rw[Y]at this;cases this;obtain⟨D2,f1,f2,f3⟩:=b.sub "WebError" (.head _);rw[f.ns]at f1;cases f1;refine⟨C,rfl,by rw[f3];simp[br],fun R W=>?_⟩
     have xe:Ext Z U Z (upd U R (.ext (mI C R od))):=fi W;have c:RelD X.K Z (upd U R (.ext (mI C R od))) (.exc nm es) (.ref R):=by
      rcases B with⟨rfl,rfl⟩|⟨dx,fs,rfl,g1,g2,g3⟩
      ·exact .exc Y aV
      ·exact .excF Y aV (by rw[aI (aR g1 W)];exact g1) g2 (g3.later rep1 xe)
     exact q Z _ (P.trans xe) (gf rep1 W) _ (RelE.unset jn ((((re.later rep P).later rep1 xe).set c jn).set c jy))
    |_=>cases e
end
def xW:List Nat->S3.aQ->Option (List D)
 |[],_=>ar []
 |j::r,ρ=>match ρ[j]? with
  |some (ar d)=>(xW r ρ).map (d::·)
  |_=>none
theorem y0{K:dV}{ι:List dt}{H:Hp}{ρ:S3.aQ}{Y:L2.St}(Z:RelE K ι H ρ Y):∀{js:List Nat} {ds:List D},xW js ρ=ar ds->∃vs,RelDs K ι H ds vs/\vs.length=js.length/\∀(i j:Nat) (v:V),js[i]? =ar j->vs[i]? =ar v->Y[j]? =ar (ar v)
 |[],ds,e=>by
  cases e;exact⟨[],.nil,rfl,fun i j v h=>by simp at h⟩
 | j ::r,ds,e=>by
  unfold xW at e;cases q:ρ[j]? with
  |none=>rw[q]at e;cases e
  | some o=>
   cases o with
   |none=>rw[q]at e;cases e
   | some d=>
    rw[q]at e;cases q2:xW r ρ with
    |none=>rw[q2]at e;cases e
    |some es=>
     rw[q2]at e;cases e;obtain⟨v,T,X⟩:=Z.get q;obtain⟨vs,g1,g2,g3⟩:=y0 Z q2;refine⟨v::vs,.cons X g1,by simp[g2],fun i U S e1 e2=>?_⟩
     cases i with
     |zero=>simp at e1 e2;subst e1 e2;exact T
     |succ i=>exact g3 i U S (by simpa using e1) (by simpa using e2)
structure LamScope(X:Cx)(scope:Scope)(N3:List Str)(js:List Nat):Prop where
 kind:scope.kind= .function
 nocell:∀y∈scope.names,y.2≠ .cell
 co:scope.isCoroutine=c_
 gen:scope.isGenerator=c_
 free:∀y∈scope.names,y.2= .free->X.env.kindOf y.1=ar .cell\/X.env.kindOf y.1=ar .free
 len:js.length=N3.length
 ix:∀(i:Nat) (x:Str) (j:Nat),N3[i]? =ar x->js[i]? =ar j->X.N[j]? =ar x/\scope.names.lookup x=ar .free
def JD(fs:Scope)(N:List Str)(scope:Scope)(N3:List Str)(js:List Nat):Bool:=
 (scope.kind== .function) && scope.names.all (fun y=>y.2 != .cell) && !scope.isCoroutine && !scope.isGenerator &&
  scope.names.all (fun y=>y.2 != .free||(fs.names.lookup y.1==ar .cell||fs.names.lookup y.1==ar .free)) && (js.length==N3.length) &&
  (N3.zip js).all (fun p=>N[p.2]? ==ar p.1 && scope.names.lookup p.1==ar .free)
theorem CG{X:Cx}(fs:Scope)(N:List Str)(S:∀x,X.env.kindOf x=fs.names.lookup x)(W:X.N=N)(h:JD fs N scope N3 js=bc):LamScope X scope N3 js:=by
 unfold JD at h;simp only[h_,x',beq_iff_eq,bne_iff_ne,vr,G']at h;obtain⟨⟨⟨⟨⟨⟨U,Z⟩,O⟩,Q⟩,T⟩,L⟩,R⟩:=h;refine⟨U,Z,O,Q,fun y Y e=>?_,L,fun i x j e1 e2=>?_⟩
 ·rw[S];exact(T y Y).resolve_left fun z=>z e
 ·have P:(N3.zip js)[i]? =ar (x,j):=Oc.mpr ⟨e1,e2⟩;have:=R _ (Mx P);rw[W];exact this
def zb(K:dV)(R:D->M D->List D->M D)(a c':dt)(ql:Str)(ds:List D)(vs:List V)(m:TM):Sp:=fun us H Q _=>
 ∃ ι S rest es,us= .ref a::rest/\Rep K ι H S/\H c'=ar (.ext (rP ql c'))/\RelDs K ι H ds vs/\RelDs K ι H es rest/\cont K gh (R (.fn a c' ql ds vs) (m (ds.map ar)) es) ι S H (kT K Q)
structure RefX(P:ee)(w:eM)(K:dV)(mg:Str->Option aC)(k k0:Nat)(x:Str)(ps:List Str)(R:D->M D->List D->M D):Prop where
 ex:∃fr fd,mg x=ar (.ref fr)/\z3 K (.ref fr)=bc/\Binds K fd ps []/\∀base,Mod K mg base->∀a c' ql ds vs m,LamOk P w K mg base k0 a (HB K c' ql ds vs m)->FnOk P w K mg base (lg P w) k fr fd ps (zb K R a c' ql ds vs m)
abbrev qH(js:List Nat)(ms:aQ->M (List D))(m:TM)(R:M D->List D->M D):TM:=fun ρ=>match xW js ρ with
 |some ds=>(do let es<-ms ρ;R (m (ds.map ar)) es)
 |none=>M.fail
theorem lI{h Z:fg}:∀{l:List Env},h.FunFrames base l->(∀b∈ke l,Z.get? b=none)->h.FunFrames Z l
 |[],_,_=>trivial
 |env::rest,⟨hk,⟨L,o,hf,_,ho,hd⟩,hr⟩,hn=>by
  rw[vS rest L env hf]at hn;exact⟨hk,⟨L,o,hf,hn L (.head _),ho,hd⟩,lI hr fun b Y=>hn b (.tail _ Y)⟩
abbrev kD(X:Cx)(H:Hp)(h:fg):Heap:=W.hideAll (lu h H) (ke X.stack)
theorem mj{X:Cx}{H:Hp}{h:fg}(e:h.get? b=ar o)(n:H b=none)(Z:b∉ke X.stack):(kD X H h).get? b=ar o:=W.hideAll_get _ (mx e n) Z
section
variable {X:Cx}{pins:List (dt×Obj)}{σ:L2.St}{H:Hp}{s:b_}
theorem m7(I:L2.Inv X pins σ H s):∀b o,X.base.get? b=ar o->(kD X H s.heap).get? b=ar o:=fun b o e=>by
 obtain⟨Y,Z⟩:=I.bs b o e;refine mj Y Z fun z=>?_;have:=(I.stack.mem z).1;rw[e]at this;cases this
theorem jk(I:L2.Inv X pins σ H s):Mod X.K X.mg (kD X H s.heap):=
 ⟨I.mod.kin.keeps (m7 I),I.mod.glob.keeps (m7 I),let ⟨mb,h1,h2⟩:=I.mod.blt;⟨mb,h1.keeps (m7 I),h2⟩,I.mod.nolimit.keeps (m7 I)⟩
theorem EJ(I:L2.Inv X pins σ H s):L2.aQ X.prog X.w X.K X.mg (kD X H s.heap) X.A X.stack s H:=
 ⟨I.ok.frames,jk I,fun b o e=>tL (W.of_hideAll _ e),by rw[W.hideAll_size,nG];exact LU _,lI I.stack fun b Z=>W.hideAll_none _ Z,I.stkFree,I.hok,I.bare⟩
theorem zd(I:L2.Inv X pins σ H s)(Z:∀x,X.fn x=bc)(e:X.env.cells.lookup x=ar c)(h:s.heap.IsCell c v):(kD X H s.heap).IsCell c v:=by
 obtain⟨o,W,Y⟩:=h;refine⟨o,mj W (I.freeC x c e) fun z=>?_,Y⟩;rcases Me.mp (I.stkSub c z)with z|z
 ·exact I.cne x c e z
 ·obtain⟨_,U,q,_⟩:=I.ok.funs.mem z;exact absurd (LZ q) (Qi.mpr (I.ok.cab x c (Z x) e))
end
section
variable {X:Cx}{x xl ql:Str}{k k0:Nat}{ps N3:List Str}{js:List Nat}{R:D->M D->List D->M D}{R':M D->List D->M D}{params:Qu}{body:Expr}{scope:Scope}{lpos p pos:Pos}{es:List Expr}{ms:aQ->M (List D)}{m:TM}{c P:dt}
theorem qI(d:RefX X.prog X.w X.K X.mg k (k0+1) x ps R)(hR:∀f c es,R f c es=R' c es)(hr:Room k X.A)(a5:∀x,X.fn x=bc)(d1:xl∈cI)(ht:mv X.K xl=ar (c,P))(a4:X.env.code= .ref c)(hq:X.env.qual++"<lambda>"=ql)(d6:ql=xl++".<locals>.<lambda>")
  (B:BaseL X.K X.mg X.base) (TI:qG X.K) (b0:defaultsOf params X.env=([],[])) (l:LamScope X scope N3 js) (ha:SA X gh es ms)
  (a3:∀(T:dt) (cl:List (Str×dt)) (pm C:aC),Rj (RT "<lambda>" ql params body scope cl pm (.ref T) C) ⟨[],[]⟩=a_ [])
  (b3:∀(base:fg),Mod X.K X.mg base->∀(f T:dt) (cl:List (Str×dt)) (A:gd) (outer:List Env) (s:b_) (H:Hp) (Ek:XK),Room k0 (A.deeper (kC ql scope f T cl s))->SE (vX X.prog X.w X.K X.mg base N3 ql scope f T cl A outer s H Ek) (vT X.K Ek) body m)
  (hg:Gl X x:=by rfl) (d0:(x==("__debug__":Str))=false:=by decide)
  (he:d_ (.Lambda params body scope lpos::es) X.env=(c_,gg (.Lambda params body scope lpos) X.env)::d_ es X.env:=by rfl) (d3:(pa pos (d_ es X.env)).any (·.1)=false:=by rfl):
  SE X gh (.Call (.Name x p) (.Lambda params body scope lpos::es) [] pos) (qH js ms m R'):=by
 intro pins s σ H Q I h;obtain⟨ι,S,ρ,rep,re,b⟩:=h;obtain⟨fr,fd,hm,hk,hb,F⟩:=d.ex;have b:cont X.K gh (qH js ms m R' ρ) ι S H (kT X.K Q):=b;unfold qH at b;cases hcap:xW js ρ with
 |none=>rw[hcap]at b;exact(ah b).elim
 |some ds=>
 rw[hcap]at b;dsimp only at b;obtain⟨vs,c5,b5,d7⟩:=y0 re hcap;have g:∀y∈scope.names,y.2= .free->∃a,X.env.cells.lookup y.1=ar a:=fun y hy e=>I.ok.has y.1 (l.free y hy e);refine NT (kR I hg hm ?_ d0);refine W.callWith_K (h₀:=X.base) I.ok.mod.kin hk (spliced_more (Hy d1 ht a4 hq d6 B TI (mG scope X.env g) b0 I rep.tab fun f T C pm H1 s1 I1 a6 d5 d2 b2 J g5 hT=>?_) he) he d3;have x1:Ext ι H ι H1:=⟨⟨[],by simp⟩,fun a o e n t=>⟨J a o e t,n⟩⟩
 have rep1:Rep X.K ι H1 S:=⟨rep.nd,rep.len,fun kk a xs e1 e2=>let ⟨ws,g1,g2⟩:=rep.get kk a xs e1 e2;⟨ws,J _ _ g1 (by intro _ z;cases z),g2.later rep x1⟩,hT⟩
 have c7:L2.Inv X ((f,y3 "<lambda>" ql params body scope (kj X.env.cells scope.names []) pm T C)::pins) σ H1 s1:=I1.pins_of fun q Y=>by
  rcases Me.mp Y with rfl|Y
  ·exact⟨d5,d2,kr (L7 (Mc I.lt a6)),I.nofs a6,fun v z=>by cases z⟩
  ·exact I1.pin q (Mt _ Y)
 refine eR (ha pos _ s1 σ H1 (fun N L=>∃U S2 O,Ext ι H1 U L/\Rep X.K U L S2/\RelDs X.K U L O N/\cont X.K gh (R' (m (ds.map ar)) O) U S2 L (kT X.K Q)) c7 ⟨ι,S,ρ,rep1,re.later rep x1,az (aq (iG b x1)) fun O U S2 L e2 rep2 c2 N r2=>⟨U,S2,O,e2,rep2,r2,c2⟩⟩) fun us s2 c6=>?_;obtain⟨N,L,a0,rv,U,S2,O,x2,rep2,r2,c2⟩:=c6;have E:L2.Inv X pins σ L s2:=a0.pins_of fun q Y=>a0.pin q (Mt _ (.tail _ Y));refine⟨E.kIn,?_⟩;show eb _ _ (call (.ref fr) (.ref f::us)) _ _ _;obtain⟨po,pn,pl,pf,_⟩:=a0.pin (f,_) (Mt _ (.head _));have e6:L T=ar (.ext (rP ql T)):=(x2.oth T _ b2 (rep1.notIn b2 (by intro _ z;cases z)) (by intro _ z;cases z)).1
 have nf:f∉ke X.stack:=fun z=>by
  rcases Me.mp (E.stkSub f z)with z|z
  ·exact pl z
  ·exact pf z
 have e0:=tY (cells:=X.env.cells) scope.names [] g (fun _ z=>nomatch z);have Z:∀y a,(kj X.env.cells scope.names []).lookup y=ar a->X.env.cells.lookup y=ar a:=fun y a e=>e0 _ (lookup_mem e);have cp:Caps (kD X L s2.heap) scope (kj X.env.cells scope.names []) N3 vs:=by
  refine⟨l.kind,l.nocell,l.co,l.gen,fun y z a e1 e2=>I.ok.inj y z a (Z y a e1) (Z z a e2),fun y e=>mem_lookup (kl scope.names [] (.inl (bL e))),fun y a e=>?_,by rw[b5];exact l.len,fun i y v e1 e2=>?_⟩
  ·obtain⟨v,z⟩:=E.cell y a (Z y a e);exact⟨v,zd E a5 (Z y a e) z⟩
  ·have d8:i<js.length:=by rw[<-b5];exact(LX.mp e2).1
   obtain⟨j,hj⟩:∃j,js[i]? =ar j:=⟨_,LV d8⟩;obtain⟨g1,g2⟩:=l.ix i y j e1 hj;have hv:=d7 i j v hj e2;have c1:=l.free (y,.free) (bL g2) rfl;have b1:zY X.env.scope y:=by
    rcases c1 with z|z
    ·exact .inr (.inl z)
    ·exact .inr (.inr z)
   obtain⟨mm,j2,hl⟩:=E.loc;obtain⟨u,ru,lk⟩:=hl j y v g1 hv b1;refine⟨g2,?_⟩;rcases lk with⟨z,_⟩|⟨_,a,ea,hca⟩
   ·have z':X.env.kindOf y=ar .local:=z;rcases c1 with w'|w'
    ·have w2:X.env.kindOf y=ar .cell:=w';rw[z']at w2;cases w2
    ·have w2:X.env.kindOf y=ar .free:=w';rw[z']at w2;cases w2
   ·obtain⟨a2,b4⟩:=mem_lookup (kl (cells:=X.env.cells) scope.names [] (.inl (bL g2)));have:=Z y a2 b4;rw[ea]at this;cases this;exact⟨a,u,b4,ru,zd E a5 ea hca⟩
 have LO:LamOk X.prog X.w X.K X.mg (kD X L s2.heap) (k0+1) f (HB X.K T ql ds vs m):=HC (mj po pn nf) cp (a3 T _ pm C) fun A outer s H Ek e5=>b3 _ (jk E) f T _ A outer s H Ek e5;have G:=F (kD X L s2.heap) (jk E) f T ql ds vs m LO;have sp:zb X.K R f T ql ds vs m (.ref f::N) L Q E0:=⟨U,S2,N,O,rfl,rep2,e6,(c5.later rep x1).later rep1 x2,r2,by rw[hR];exact c2⟩
 have hlen:(er f::us).length=ps.length:=by
  have:=G.len _ _ _ _ sp;rw[<-this,Ml,Ml,rv.length]
 refine OG (NC (G.run X.A X.stack s2 L ⟨.ref f::us,[]⟩ (.ref f::us) (.ref f::N) Q E0 hr (EJ E) (by have:=hb s2 (.ref f::us) E.kIn (by rw[MI];exact hlen);rw[MI]at this;exact this) (.cons rfl rv) sp) fun r s' Y=>?_)
 cases r with
 |error e=>obtain⟨_,_,_,_,_,_,_,_,_,_,_,_,_,_,_,z⟩:=Y;exact g_ z
 |ok fl=>
  cases fl with
  |ret u=>exact E.after Y
  |next=>exact g_ Y
  |brk=>exact g_ Y
  |cont=>exact g_ Y
end
def kE(K:dV):List Addr:=cI.filterMap fun y=>(mv K y).map (·.2)
theorem AL{K:dV}{y:Str}{c P:dt}(Z:y∈cI)(e:mv K y=ar (c,P)):P∈kE K:=Ni.mpr ⟨y,Z,by rw[e];rfl⟩
theorem v5{K:dV}{P:dt}(h:P∈kE K):∃y c,y∈cI/\mv K y=ar (c,P):=by
 obtain⟨y,Z,e⟩:=Ni.mp h;cases q:mv K y with
 |none=>rw[q]at e;cases e
 |some p=>rw[q]at e;cases e;exact⟨y,p.1,Z,q⟩
theorem EK{K:dV}{j:Str->Option aC}{sp:Sp}{Z:b_}{vs:List aC}
  (KX:K.In Z.heap) (nt:RV K=bc) (a0:Z.heap.Ns f' mg) (n:Z.heap.Ns v_ j) (g:∀x:Str,x≠"__name__"->j x=lx x) (C:Z.heap.NoLimit) (hg:Z.gens= #[])
  (a3:∃bm I,mg "__builtins__"=ar (.ref bm)/\bm≠v_/\Z.heap.get? bm=ar I/\I.cls= .type "module"/\I.dict=ar v_/\I.data= .plain)
  (U:∀y∈cI,∀c Q,mv K y=ar (c,Q)->Ql Z.heap c Q/\Z.heap.get? Q=ar (w_ #[]))
  (J:Z.heap.get? a=ar {cls:=.type "list",data:=.seq vs.toArray}) (hi:oD vs ns) (hl:ns.length<=sizeLine) (hr:Room k w7)
  (F:∀base:fg,Mod K mg base->BaseL K mg base->FnOk P w K mg base (lg P w) k fa fd [x] sp) (N:∀(s:b_) (u:aC),GB s fd ⟨[u],[]⟩ [(x,u)])
  (l:∀H:Hp,TabsOk K H->DR K H a (ns.map V.int)->sp [.ref a] H (fun v _=>v= .bl bc) fun _ _ _=>False):
  B_ (e_ P w) w7 (.call (.ref fa) ⟨[.ref a],[]⟩) (fun r s'=>r= .ok (.ret (.bool bc))/\OldK Z.heap s'.heap/\s'.os=Z.os/\y4 s'.gens) Z:=by
 have rv:=ju hi;have X:∀Q∈kE K,Z.heap.get? Q=ar (w_ #[]):=fun Q hQ=>let ⟨y,c,R,e⟩:=v5 hQ;(U y R c Q e).2;have aT:a∉kE K:=fun z=>by
  have:=X a z;rw[J]at this;cases this
 let H:Hp:=fun b=>if b∈kE K then ar (.tbl #[])else if b=a/\K.lookup a=none then ar (.frz {cls:=.type "list",data:=.seq vs.toArray} (.lst (ns.map V.int)))else none;have p:∀b∈kE K,H b=ar (.tbl #[]):=fun b z=>if_pos z;have G:∀b,b∉kE K->H b=if b=a/\K.lookup a=none then ar (.frz {cls:=.type "list",data:=.seq vs.toArray} (.lst (ns.map V.int)))else none:=fun b z=>if_neg z;have free:∀{b:dt} {o:Obj},Z.heap.get? b=ar o->o≠w_ #[]->(o.cls≠ .type "list"\/K.lookup b=ar o)->H b=none:=fun{b o} e i S=>by
  have z:b∉kE K:=fun z=>by
   have:=X b z;rw[e]at this;exact i (Mn this)
  rw[G b z,if_neg];rintro⟨rfl,kn⟩;rcases S with S|S
  ·rw[J]at e;cases e;exact S rfl
  ·rw[kn]at S;cases S
 have L:∀{b:dt} {o:Obj},K.lookup b=ar o->o≠w_ #[]:=fun{b o} e z=>by
  have f:=Mf.mp nt (b,o) (W.mem_of_lookupK e);subst z;exact absurd (show c_=bc from f) Nj
 have E:gR P w H Z.heap:=fun b u e=>by
  by_cases z:b∈kE K
  ·rw[p b z]at e;cases e;exact X b z
  ·rw[G b z]at e;by_cases q:b=a/\K.lookup a=none
   ·rw[if_pos q]at e;cases e;obtain⟨rfl,_⟩:=q;exact⟨J,by rw[LR];exact hl,vs,_,rv,J⟩
   ·rw[if_neg q]at e;cases e
 have Y:∀{b:dt} {o:Obj},Z.heap.get? b=ar o->o≠w_ #[]->(o.cls≠ .type "list"\/K.lookup b=ar o)->(lu Z.heap H).get? b=ar o:=fun e i S=>mx e (free e i S);have O:∀{b:dt} {m:Str->Option aC},Z.heap.Ns b m->(lu Z.heap H).Ns b m:=fun{b m} ⟨o,es,ep,e,d,r⟩=>by
  have z:H b=none:=by
   by_cases zt:b∈kE K
   ·have:=X b zt;rw[e]at this;cases this;cases d
   ·rw[G b zt,if_neg];rintro⟨rfl,_⟩;rw[J]at e;cases e;cases d
  exact⟨o,es,ep,mx e z,d,r⟩
 have a6:K.In (lu Z.heap H):=fun b o e=>Y (KX b o e) (L e) (.inr e);have hM:Mod K mg (lu Z.heap H):=⟨a6,O a0,⟨j,O n,g⟩,let ⟨mc,h1,f⟩:=C;⟨mc,O h1,f⟩⟩;have hB:BaseL K mg (lu Z.heap H):=by
  refine⟨?_,fun y R c Q e=>?_⟩
  ·obtain⟨bm,I,b1,b2,b3,t,b5,b6⟩:=a3;exact⟨bm,I,b1,b2,Y b3 (fun z=>by rw[z]at t;cases t) (.inl (by rw[t];decide)),t,b5,b6⟩
  ·obtain⟨o,v2,file,tf,flags,tg,a5,text,tt,e1,A,r⟩:=(U y R c Q e).1;exact⟨o,v2,file,tf,flags,tg,a5,text,tt,Y e1 (fun z=>by rw[z]at A;cases A) (.inl (by rw[A];decide)),A,r⟩
 have e0:L2.aQ P w K mg (lu Z.heap H) w7 [] Z H:=⟨rfl,hM,fun b o e=>tL e,Om (nG _ _),trivial,fun b n=>absurd (show b∈([]:List dt)from n) (by simp),E,.of_eq hg⟩
 have a4:TabsOk K H:=fun y R c Q e=>⟨#[],p Q (AL R e),trivial,fun pos cv q=>by cases q⟩
 have B:DR K H a (ns.map V.int):=by
  cases hk:K.lookup a with
  |some o=>
   have e:=KX a o hk;rw[J]at e;cases e;exact .inr ⟨_,vs.toArray,_,hk,rfl,rfl,rfl,by rw[L6,hi.length];exact hl,by simpa using rv⟩
  |none=>exact .inl ⟨_,by rw[G a aT,if_pos ⟨rfl,hk⟩]⟩
 refine NC ((F _ hM hB).run w7 [] Z H ⟨[.ref a],[]⟩ [.ref a] [.ref a] _ _ hr e0 (N Z (.ref a)) (.cons rfl .nil) (l H a4 B)) fun r s' h=>?_;cases r with
 |error e=>obtain⟨_,_,_,_,_,_,_,_,_,_,_,_,_,_,_,z⟩:=h;exact g_ z
 | ok fl=>
  cases fl with
  |next=>exact g_ h
  |brk=>exact g_ h
  |cont=>exact g_ h
  | ret u=>
   obtain⟨v,H',os,bare,un,T,r',q⟩:=h;have q':v= .bl true:=q;subst q';obtain rfl:u=t4 true:=r';refine⟨rfl,⟨fun b o e=>?_,fun b o e=>un.there b o e (by simp)⟩,os,bare⟩
   by_cases zt:b∈kE K
   ·obtain⟨y,c,R,et⟩:=v5 zt;obtain⟨hc,hP⟩:=U y R c b et;obtain⟨more,em⟩:=un.tbls b _ (p b zt);have o2:s'.heap.get? b=ar {cls:=.none,data:=.fields (#[]++more)}:=T b _ em;rw[hP]at e;cases e;exact .inr (.inl ⟨(hc.tab hP).isCodeTable,rfl, #[],more,rfl,o2⟩)
   ·by_cases qa:b=a/\K.lookup a=none
    ·have z1:H b=ar (.frz {cls:=.type "list",data:=.seq vs.toArray} (.lst (ns.map V.int))):=by rw[G b zt,if_pos qa]
     obtain⟨e2,_⟩:=T b _ (un.frzs b _ _ z1);obtain⟨e1,_⟩:=E b _ z1;rw[e]at e1;cases e1;exact .inl e2
    ·exact .inl (un.keep b o e (by rw[G b zt,if_neg qa]) (by intro z;exact absurd (show b∈([]:List dt)from z) (by simp)) (by simp))
theorem CH{l:Rz}{YP:eM->fg->Prop}{d:RX}{K:PJ->dV}{sp:eM->Sp}
  (m:l.most=ar n) (N:n<=sizeLine) (P:d.params.defaults=[]) (j:Room k w7)
  (E:∀(w:eM) (h:fg),YP w h->(K w.params).In h) (t:∀w:eM,RV (K w.params)=bc)
  (X:∀(w:eM) (h:fg),YP w h->∀y∈cI,∀c Q,mv (K w.params) y=ar (c,Q)->Ql h c Q/\h.get? Q=ar (w_ #[]))
  (F:∀(w:eM) (Z:Str->Option aC) (S:dt) (h:fg),(K w.params).In h->h.Ns f' Z->Z d.name=ar (.ref S)->
   ∃fd:fc,(∀(s:b_) (u:aC),GB s fd ⟨[u],[]⟩ [(x,u)])/\
    ∀base:fg,Mod (K w.params) Z base->BaseL (K w.params) Z base->FnOk l.prog w (K w.params) Z base (lg l.prog w) k S fd [x] (sp w))
  (O:∀(w:eM) (H:Hp) (a:dt) (ns:List Int),ns.length<=n->TabsOk (K w.params) H->DR (K w.params) H a (ns.map V.int)->sp w [.ref a] H (fun v _=>v= .bl bc) fun _ _ _=>False):
  R6 q loose XP YP l.row.toRowW d [] (fun f vs=>PySem.call f vs):=by
 refine Att.attach_call m P fun w s₀ L Z i S o pm cd doc a vs ns G Y ho hd B R U hints hlen C=>?_;have J:=E w _ Y;obtain⟨fd,A,r⟩:=F w Z S _ J G.T.g R;refine EK J (t w) G.T.g G.T.b G.T.builtins G.T.nolimit C G.T.bmain (fun y I c Q e=>X w _ Y y I c Q e) U hints (Ma hlen N) j r A fun H z p=>O w H a ns hlen z p
def JE(K:dV)(ts:List dt):Bool:=cI.all fun y=>match mv K y with
 |some (c,Q)=>W.codeHdIn K c Q && ts.contains Q
 |none=>bc
theorem K9{K:PJ->dV}{e:∀P,as=(K P).map (·.1)}{w:eM}(U:JE (K w.params) ts=bc)(Y:(W.kmHook K as e ts).says w h):
  ∀y∈cI,∀c Q,mv (K w.params) y=ar (c,Q)->Ql h c Q/\h.get? Q=ar (w_ #[]):=fun y Z c Q X=>by
 have:=Mf.mp U y Z;rw[X]at this;simp only[h_]at this;exact⟨W.codeHd_of_K (W.km_in_of Y) this.1,W.km_tabs_of Y Q (List.contains_iff_mem.mp this.2)⟩
def CI(K:dV):Bool:=cI.all fun x=>cI.all fun y=>match mv K x,mv K y with
 |some (_,P),ar (_,Q)=>P !=Q||x==y
 |_,_=>bc
theorem CJ{K:dV}(h:CI K=bc):qG K:=fun x Y y Z c d P e1 e2=>by
 have:=Mf.mp (Mf.mp h x Y) y Z;rw[e1,e2]at this;simpa using this
def kF(N n:Nat)(m:cJ):List D->M D:=oA N n (fun ρ=>o9 (m ρ))
section
variable {P:ee}{w:eM}{K:dV}{mg:Str->Option aC}{base:fg}
theorem bR{x qual:Str}{X:p4}{f:dt}{T:fc}{N U:List Str}{k:Nat}{m:cJ}{S:List D->M D}(F:Fun K x qual X f T)(Q:mg x=ar (.ref f))(J:Binds K T U [])(R:FnScope N U (au X))(O:S=kF N.length U.length m)
  (Y:∀(Z:aC) (A:gd) (outer:List Env) (s:b_) (H:Hp) (E:XK),Room k (A.deeper (y1 qual (au X) s.heap.objs.size f Z))->
   vn (jH (lg P w) P w K mg base N qual (au X) f Z A outer s H E).nox gh (dC X) m):DefX P w K mg base (k+1) x U S:=
 ⟨f,T,by rw[O];exact Hz F R fun Z A outer s H L I _ _=>vU (uG (Y Z A outer s H L I)),Q,F.kp,J⟩
theorem lh{x qual:Str}{X:p4}{f:dt}{T:fc}{N U:List Str}{k:Nat}{m:cJ}{S:List D->M D}(F:Fun K x qual X f T)(Q:mg x=ar (.ref f))(J:Binds K T U [])(R:FnScope N U (au X))(O:S=oA N.length U.length m)
  (Y:∀(Z:aC) (A:gd) (outer:List Env) (s:b_) (H:Hp) (E:XK),Room k (A.deeper (y1 qual (au X) s.heap.objs.size f Z))->
   vn (jH (lg P w) P w K mg base N qual (au X) f Z A outer s H E) (vT K E) (dC X) m):DefX P w K mg base (k+1) x U S:=
 ⟨f,T,by rw[O];exact Hz F R fun Z A outer s H L I _ _=>Y Z A outer s H L I,Q,F.kp,J⟩
theorem EL{x y qual:Str}{f c T:dt}{Q:aC}{od:Option dt}{X:Array (Option aC)}{kV U I Y ct J:aC}{S:Option dt}{H:Qu}{L:List p4}{N:Scope}(R:pb K f' x=ar (ar (.ref f)))
  (O:K.lookup f=ar ⟨Q,od,.func (D_ y qual H L N J kV U I S Y ct),X⟩) (Z:mv K x=ar (c,T)):Y= .ref c:=by
 unfold mv at Z;rw[R]at Z;dsimp only at Z;rw[O]at Z;dsimp only at Z;cases Y with
 | ref c2=>
  dsimp only at Z;split at Z
  ·split at Z
   ·cases Z;rfl
   ·cases Z
  ·cases Z
 |_=>cases Z
theorem CK{x qual:Str}{Y:p4}{f:dt}{R:fc}{N X:List Str}{k:Nat}{m:cJ}{S:List D->M D}{c Q:dt}(F:Fun K x qual Y f R)(I:FnScope N X (au Y))(C:S=kF N.length X.length m)(L:pb K f' x=ar (ar (.ref f)))(B:mv K x=ar (c,Q))
  (Z:∀(A:gd) (outer:List Env) (s:b_) (H:Hp) (E:XK),Room k (A.deeper (y1 qual (au Y) s.heap.objs.size f (.ref c)))->
   vn (jH (lg P w) P w K mg base N qual (au Y) f (.ref c) A outer s H E).nox gh (dC Y) m):FnOk P w K mg base (lg P w) (k+1) f R X (CA K S):=by
 rw[C];refine Hz F I fun T A outer s H z y _ U=>?_;obtain⟨v,od,J,kV,doc,pm,an,ct,G⟩:=U;have O:T= .ref c:=EL L G B;subst O;exact vU (uG (Z A outer s H z y))
theorem CL{x qual:Str}{O:p4}{f:dt}{z:fc}{N Y:List Str}{k k0:Nat}{m:D->M D->cJ}{R:D->M D->List D->M D}(F:Fun K x qual O f z)(i:mg x=ar (.ref f))(u:Binds K z Y [])(p:FnScope N Y (au O))(t:R=fun J c es=>oA N.length Y.length (m J c) (J::es))
  (U:∀(base:fg),Mod K mg base->∀(a X:dt) (ql:Str) (ds:List D) (vs:List V) (mm:TM),LamOk P w K mg base k0 a (HB K X ql ds vs mm)->∀(Z:aC) (A:gd) (outer:List Env) (s:b_) (H:Hp) (E:XK),Room k (A.deeper (y1 qual (au O) s.heap.objs.size f Z))->
   vn (jH (lg P w) P w K mg base N qual (au O) f Z A outer s H E).nox gh (dC O) (m (.fn a X ql ds vs) (mm (ds.map ar)))):RefX P w K mg (k+1) k0 x Y R:=by
 refine⟨f,z,i,F.kp,u,fun base G a X ql ds vs mm L=>?_⟩;rw[t];obtain⟨e,od,kV,doc,pm,an,Z,ct,q,rfl,n,B⟩:=F.ex;have key:∀{us:List V} {H:Hp} {Q:VK} {I:XK},zb K (fun J c es=>oA N.length Y.length (m J c) (J::es)) a X ql ds vs mm us H Q I->us.length=Y.length/\∃ ι S es,Rep K ι H S/\RelDs K ι H es us/\cont K gh (do let o<-m (.fn a X ql ds vs) (mm (ds.map ar)) (es.map ar++l3 (N.length - Y.length) none);outD o) ι S H (kT K Q):=by
  rintro us H Q I ⟨ι,S,rest,es,rfl,rep,hc',rds,res,c⟩;have y:RelDs K ι H (.fn a X ql ds vs::es) (.ref a::rest):=.cons (.fn hc' rds) res;unfold oA at c;dsimp only at c;by_cases T:(D.fn a X ql ds vs::es).length=Y.length
  ·rw[if_pos T]at c;exact⟨by rw[<-y.length];exact T,ι,S,_,rep,y,c⟩
  ·rw[if_neg T]at c;exact(ah c).elim
 refine Bw n B p (fun us H Q I h=>(key h).1) fun A outer s H us Q I j h=>⟨_,uG (U base G a X ql ds vs mm L Z A outer s H I j),?_⟩;obtain⟨T,ι,S,es,rep,r,c⟩:=key h;refine⟨ι,S,_,rep,?_,az (aq c) fun o l S1 g e1 rep1 C=>?_⟩
 ·have:=RelE.start r (N.length - Y.length);unfold L2.start;rw[T];exact this
 ·cases o with
  |nx ρ=>exact fun v _=>aj C .refl rep1 _ .non
  |ret d=>exact aj C .refl rep1
  |bk ρ=>exact(ah C).elim
  |ct ρ=>exact(ah C).elim
end
end S7
section
namespace S4
open PySem PySem.Spec PyProof.Rows
section
variable {prog:ee}{w:eM}{A:gd}{E:aC->b_->Prop}{s:b_}
end
end S4
namespace S3
open PySem PySem.Spec PyProof.Rows L2 S4
section
variable {X:Cx}{E:XD}{e:Expr}{m:TM}{pos:Pos}
end
end S3
end
namespace S4
open PySem PySem.Spec PyProof.Rows L2 S3
def EM(l1 l2:dt):It:=⟨fun i H=>∃va vb,Rd H l1 (.lst va)/\Rd H l2 (.lst vb)/\i<va.length/\i<vb.length,
 fun i H x H'=>∃va vb p u v,Rd H l1 (.lst va)/\Rd H l2 (.lst vb)/\H p=none/\va[i]? =ar u/\vb[i]? =ar v/\x= .ref p/\H'=upd H p (.tup [u,v]),fun i H=>∃va vb,Rd H l1 (.lst va)/\Rd H l2 (.lst vb)/\(va.length<=i\/vb.length<=i)⟩
theorem AM{P:ee}{w:eM}{K:dV}{F:List Expr}{x1}{tp:Pos}{z TI TO N O l1 l:dt}(D:Ru z TI TO N O l1 l):
  Turn P w K (.Tuple F x1 tp) (EM l1 l) [z,TI,TO,N,O] z
   (fun i h=>M_ h z TI TO .none/\p_ h TI (.ref N) (.ref O)/\(∃a b,p_ h TO a b)/\h.IsListIter N l1 i/\h.IsListIter O l i) where
 mem:=by simp
 obj:=fun i h st b Z=>by
  obtain⟨R,Y,⟨a,c,U⟩,⟨o1,e1,c1,d1⟩,⟨o2,e2,c2,d2⟩⟩:=st;simp only[f_,fb,or_false]at Z;rcases Z with rfl|rfl|rfl|rfl|rfl
  ·exact⟨_,R,fun v z=>by cases z⟩
  ·exact⟨_,Y,fun v z=>by cases z⟩
  ·exact⟨_,U,fun v z=>by cases z⟩
  ·exact⟨_,e1,fun v z=>by rw[d1]at z;cases z⟩
  ·exact⟨_,e2,fun v z=>by rw[d2]at z;cases z⟩
 keep:=fun i h h' st k=>by
  obtain⟨R,Y,⟨a,c,U⟩,G,J⟩:=st;exact⟨k z (by simp) _ R,k TI (by simp) _ Y,⟨a,c,k TO (by simp) _ U⟩,G.at fun o e=>k N (by simp) o e,J.at fun o e=>k O (by simp) o e⟩
 item:=by
  intro X hP hw j hc i pins s σ H E I hf st hg;subst hP hw j;obtain⟨R,Y,⟨a,c,U⟩,G,J⟩:=st;obtain⟨q,r,p,n,ga,gb⟩:=hg;obtain⟨u,L,p1,_⟩:=I.list (.inl p);obtain⟨A,Q,m,_⟩:=I.list (.inl n);obtain⟨f,b5,a0⟩:=L.get (LV ga);obtain⟨d,b2,c3⟩:=Q.get (LV gb);refine wpAny_pyNext_zip_item D R Y U G J p1.isList m.isList (x:=f) (y:=d) (by simpa using b5) (by simpa using b2) fun h' a1 a2 a3 a4 a5 a6 t=>?_
  have b1:H s.heap.objs.size=none:=I.hok.fresh (LU _);have lt:∀{c o},s.heap.get? c=ar o->s.heap.objs.size≠c:=fun e=>Nn (LZ e);refine⟨_,rfl,Pl a1 fun S b3 T=>?_⟩;have B:p_ S TI (.ref N) (.ref O):=T.extBut _ _ D.TIz (t _ _ D.TIz D.TITO D.TIi1 D.TIi2 Y);have kk:∀b o,b∉[z,TI,TO,N,O]->s.heap.get? b=ar o->S.get? b=ar o:=fun b o Z e=>by
   simp only[f_,fb,or_false,not_or]at Z;exact T.extBut _ _ Z.1 (t b o Z.1 Z.2.2.1 Z.2.2.2.1 Z.2.2.2.2 e)
  have C:p_ S s.heap.objs.size f d:=T.extBut _ _ (lt R) a5;have I2:L2.Inv X pins σ (upd H s.heap.objs.size (.tup [q[i],r[i]])) {s with heap:=S,toks:=s.toks}:=uC (o:=.tup [q[i],r[i]]) I hf kk (LU _) ⟨⟨by show 2<=sizeLine;decide,_,C,rfl⟩,[f,d],.cons a0 (.cons c3 .nil),_,C,rfl,_,rfl⟩
  refine⟨.ref s.heap.objs.size,_,I2,rfl,
   ⟨q,r,_,_,_,p,n,b1,LV ga,LV gb,rfl,rfl⟩,⟨b3,B,⟨_,_,T.extBut _ _ D.TOz a2⟩,a3.at fun o e=>T.extBut _ _ D.i1z e,a4.at fun o e=>T.extBut _ _ D.i2z e⟩,fun b Z=>?_⟩
  obtain⟨ob,ho,_⟩:∃ob,s.heap.get? b=ar ob/\True:=by
   simp only[f_,fb,or_false]at Z;rcases Z with rfl|rfl|rfl|rfl|rfl
   ·exact⟨_,R,trivial⟩
   ·exact⟨_,Y,trivial⟩
   ·exact⟨_,U,trivial⟩
   ·obtain⟨o,e,_⟩:=G;exact⟨_,e,trivial⟩
   ·obtain⟨o,e,_⟩:=J;exact⟨_,e,trivial⟩
  rw[aI (L7 (LZ ho))];exact(hf b Z).1
 done:=by
  intro X hP hw j hc i pins s σ H E I hf st hg;subst hP hw j;obtain⟨R,Y,⟨a,c,U⟩,G,J⟩:=st;obtain⟨q,r,p,n,gs⟩:=hg;obtain⟨u,L,p1,_⟩:=I.list (.inl p);obtain⟨A,Q,m,_⟩:=I.list (.inl n);have c7:=L.length;have d3:=Q.length;refine wpAny_pyNext_zip_end (I.ok.hd hc) D R Y U G J p1.isList m.isList (gs.imp (fun g=>by simp;omega) fun g=>by simp;omega) fun h' t=>⟨rfl,uB (t':=s.toks) I hf fun b o Z e=>?_⟩
  simp only[f_,fb,or_false,not_or]at Z;exact t b o Z.1 Z.2.2.1 Z.2.2.2.1 Z.2.2.2.2 e
 self:=fun _ _ _ _ _ st h=>OR st.1 h
theorem EN{X:Cx}{P:List Expr}{x1}{tp p pos:Pos}{es:List Expr}{e:Expr}{z:TA}(w:Gl X "zip")(v:X.mg "zip"=none)(y:PA X (e::es) z)
  (x:d_ (e::es) X.env=(c_,gg e X.env)::d_ es X.env:=by rfl) (A:(pa pos (d_ es X.env)).any (·.1)=false:=by rfl):
  PI X (.Tuple P x1 tp) (.Call (.Name "zip" p) (e::es) [] pos) (fun σ H R=>z σ H fun xs Z=>(∃a b va vb,xs=[.ref a,.ref b]/\Rd Z a (.lst va)/\Rd Z b (.lst vb)/\R (EM a b) Z)\/
   (∃a b va vb,xs=[.ref a,.ref b]/\Z a=ar (.tup va)/\Z b=ar (.tup vb)/\
   R ⟨fun i H=>(Bg va vb).go i H/\(H a=ar (.tup va)/\H b=ar (.tup vb)),(Bg va vb).yld,fun i H=>(Bg va vb).stop i H/\(H a=ar (.tup va)/\H b=ar (.tup vb))⟩ Z)):=by
 intro pins s σ H R I h;refine R_ (lU I w v (show lx "zip"=ar (.type "zip") by decide+kernel) (M8 (eR (y pos pins s σ H _ I h) fun us s1 ⟨vs,Z,I1,r1,q1⟩=>?_) x A) (by decide) (by decide))
 have fresh:∀c∈[s1.heap.objs.size+4,s1.heap.objs.size+2,s1.heap.objs.size+3,s1.heap.objs.size,s1.heap.objs.size+1],s1.heap.objs.size<=c:=fun c U=>by
  simp only[f_,fb,or_false]at U;omega
 rcases q1 with⟨a,b,va,vb,rfl,hA,hB,q⟩|⟨a,b,va,vb,rfl,hA,hB,q⟩
 ·obtain⟨u,C,rfl,E,Q⟩:=vals2 r1;cases (show u=er a from E);cases (show C=er b from Q);obtain⟨L,G,O,_⟩:=I1.list (.inl hA);obtain⟨J,F,N,_⟩:=I1.list (.inl hB);have a1:a<s1.heap.objs.size:=by obtain⟨_,e,_⟩:=O.isList;exact LZ e
  have a2:b<s1.heap.objs.size:=by obtain⟨_,e,_⟩:=N.isList;exact LZ e
  refine call_zip_2 O.isList N.isList fun h' K Y T S W _ B=>OR K ?_;exact⟨s1.heap.objs.size+4,_,_,_,Z,rfl,I1.kept (t':=s1.toks) B,AM (zipApart_new a1 a2),⟨K,Y,⟨_,_,T⟩,S,W⟩,fun c U=>I1.fpOk (fresh c U) (I1.hok.fresh (fresh c U)),q⟩
 ·obtain⟨u,C,rfl,E,Q⟩:=vals2 r1;cases (show u=er a from E);cases (show C=er b from Q);obtain⟨L,G,O,_⟩:=I1.tuple (.of hA);obtain⟨J,F,N,_⟩:=I1.tuple (.of hB);have a1:a<s1.heap.objs.size:=by obtain⟨_,e,_⟩:=O;exact LZ e
  have a2:b<s1.heap.objs.size:=by obtain⟨_,e,_⟩:=N;exact LZ e
  refine AG O N fun h' K Y T S W B=>OR K ?_;exact⟨s1.heap.objs.size+4,_,_,_,Z,rfl,I1.kept (t':=s1.toks) B,Cs (zipApart_new a1 a2) (fun H=>H a=ar (.tup va)/\H b=ar (.tup vb)) (fun _=>.rfl),⟨K,Y,⟨_,_,T⟩,S,W⟩,fun c U=>I1.fpOk (fresh c U) (I1.hok.fresh (fresh c U)),q⟩
theorem Rd.lst_inj(h:Rd H a (.lst xs))(h':Rd H a (.lst ys)):xs=ys:=by
 rcases h with h|⟨o,h⟩<;>rcases h' with h'|⟨o',h'⟩<;>(rw[h]at h';cases h'<;>rfl)
def zL:D->M (List D×Option (Nat×List D))
 | .lst k=>do let xs<-getL k;a_ (xs,ar (k,xs))
 | .fz xs=>a_ (xs,none)
 |_=>M.fail
def HE:Option (Nat×List D)->Option (Nat×List D)->Chk
 |some (k,xs),ar (j,ys)=>.two k j xs ys
 |some (k,xs),none=>.two k k xs xs
 |none,ar (j,ys)=>.two j j ys ys
 |none,none=>.none
def CM:List D->M Iter
 |[.tup xs,.tup ys]=>a_ ⟨(xs.zip ys).map fun p=>.tup [p.1,p.2],.none⟩
 |[a,b]=>do let x<-zL a;let y<-zL b;a_ ⟨(x.1.zip y.1).map fun p=>.tup [p.1,p.2],HE x.2 y.2⟩
 |_=>M.fail
structure ZOk(K:dV)(x:List D×Option (Nat×List D))(a:dt)(ι:List dt)(H:Hp):Prop where
 ok:∀ ι2 H2 S2,ExtN ι H ι2 H2->Rep K ι2 H2 S2->(∀k xs,x.2=ar (k,xs)->S2[k]? =ar xs)->∃va,Rd H2 a (.lst va)/\RelDs K ι2 H2 x.1 va
theorem CN{K:dV}{E:XD}{ι:List dt}{S:aF}{H:Hp}{d:D}{v:V}{α:Type}{f:List D×Option (Nat×List D)->M α}{Q:α->List dt->aF->Hp->Prop}(Z:Rep K ι H S)(r:RelD K ι H d v)(c:cont K E (zL d>>=f) ι S H Q):
  ∃a x X,v= .ref a/\Rd H a (.lst X)/\ZOk K x a ι H/\cont K E (f x) ι S H Q:=by
 cases d with
 | lst k=>
  obtain⟨a,rfl,Y⟩:=r.lst_inv;have O:cont K E (getL k>>=fun xs=>a_ (xs,ar (k,xs))>>=f) ι S H Q:=by
   rw[<-eB];exact c
  obtain⟨xs,vs,I,L,R,T⟩:=bC O Z Y;rw[ay]at T;refine⟨a,(xs,ar (k,xs)),vs,rfl,.inl L,⟨fun U J S2 e rep2 ok=>?_⟩,T⟩;obtain⟨X,P,N⟩:=rep2.get k a xs (e.at Y) (ok k xs rfl);exact⟨X,.inl P,N⟩
 |fz xs=>
  obtain⟨a,o,vs,rfl,Y,R⟩:=r.fz_inv;refine⟨a,(xs,none),vs,rfl,.inr ⟨o,Y⟩,⟨fun U J S2 e rep2 ok=>?_⟩,aj (aq c) .refl Z⟩;exact⟨vs,.inr ⟨o,(e.oth _ _ Y (Z.notIn Y (by intro _ z;cases z)) (by intro _ z;cases z) (by intro _ z;cases z)).1⟩,R.laterN Z e⟩
 |_=>exact(ah (aq c)).elim
theorem EO(h:Iter.okS ⟨items,HE x y⟩ S):(∀k xs,x=ar (k,xs)->S[k]? =ar xs)/\∀k xs,y=ar (k,xs)->S[k]? =ar xs:=by
 match x,y,h with
 |some (k,xs),ar (j,ys),h=>exact⟨fun _ _ e=>(by cases e;exact h.1),fun _ _ e=>(by cases e;exact h.2)⟩
 |some (k,xs),none,h=>exact⟨fun _ _ e=>(by cases e;exact h.1),fun _ _ e=>(by cases e)⟩
 |none,ar (j,ys),h=>exact⟨fun _ _ e=>(by cases e),fun _ _ e=>(by cases e;exact h.1)⟩
 |none,none,h=>exact⟨fun _ _ e=>(by cases e),fun _ _ e=>(by cases e)⟩
theorem v7{K:dV}{ι:List dt}{H:Hp}{a b:dt}{x y:List D×Option (Nat×List D)}(F:ZOk K x a ι H)(I:ZOk K y b ι H):
  ku K ⟨(x.1.zip y.1).map fun p=>.tup [p.1,p.2],HE x.2 y.2⟩ (EM a b) ι H:=by
 intro Z S S2 e rep2 ok i;obtain⟨R,P⟩:=EO ok;obtain⟨N,X,T⟩:=F.ok Z S S2 e rep2 R;obtain⟨J,Y,U⟩:=I.ok Z S S2 e rep2 P;have r:=T.length;have q:=U.length;refine⟨fun d hd=>?_,fun hlen=>?_⟩
 ·obtain⟨A,w,L,O,rfl⟩:=zip_get hd;have s:=(LX.mp L).1;have t:=(LX.mp O).1;refine⟨⟨N,J,X,Y,by omega,by omega⟩,?_⟩
  rintro v H3 ⟨va',vb',p,u,E,gA,gB,hp,g1,g2,rfl,rfl⟩;cases Rd.lst_inj X gA;cases Rd.lst_inj Y gB;obtain⟨v1,e1,C⟩:=T.get' L;obtain⟨v2,e2,G⟩:=U.get' O;obtain rfl:v1=u:=Mn (e1.symm.trans g1);obtain rfl:v2=E:=Mn (e2.symm.trans g2);have Q:Ext Z S Z (upd S p (.tup [v1,v2])):=fi hp;exact⟨Q,gf rep2 hp,.tup aV (.cons (C.later rep2 Q) (.cons (G.later rep2 Q) .nil))⟩
 ·have B:min x.1.length y.1.length<=i:=by simpa using hlen
  refine⟨N,J,X,Y,?_⟩;rcases Nat.le_total x.1.length y.1.length with z|z
  ·exact .inl (by omega)
  ·exact .inr (by omega)
theorem zh{X:Cx}{x1}(j:X.mg "zip"=none)(w:SE X E a m)(q:SE X E b n)(v:Gl X "zip":=by rfl)
  (hs:d_ [a,b] X.env=[(c_,gg a X.env),(c_,gg b X.env)]:=by rfl) (W:d_ [b] X.env=[(c_,gg b X.env)]:=by rfl):
  SI X E (.Tuple elts x1 tp) (.Call (.Name "zip" p) [a,b] [] pos) (fun ρ=>do let ds<-(do let x<-m ρ;let xs<-(do let y<-n ρ;let ys<-a_ [];a_ (y::ys));a_ (x::xs));CM ds):=by
 intro pins s σ H R I h;have F:PI X (.Tuple elts x1 tp) (.Call (.Name "zip" p) [a,b] [] pos) (fun σ H R=>KY X.K E (ae m (ae n ao)) σ H fun xs U=>(∃a b Z Y,xs=[.ref a,.ref b]/\Rd U a (.lst Z)/\Rd U b (.lst Y)/\R (EM a b) U)\/
   (∃a b Z Y,xs=[.ref a,.ref b]/\U a=ar (.tup Z)/\U b=ar (.tup Y)/\
   R ⟨fun i H=>(Bg Z Y).go i H/\(H a=ar (.tup Z)/\H b=ar (.tup Y)),(Bg Z Y).yld,fun i H=>(Bg Z Y).stop i H/\(H a=ar (.tup Z)/\H b=ar (.tup Y))⟩ U)):=
  EN v j (af w (af q ai (by rw[W];rfl)) (by rw[hs,W])) (by rw[hs,W]) (by rw[W];rfl)
 refine F pins s σ H R I ?_;obtain⟨ι,S,ρ,rep,re,c⟩:=h;refine⟨ι,S,ρ,rep,re,az (aq c) fun ds l S1 U e1 rep1 T vs r=>?_⟩;unfold CM at T;split at T
 ·next xs ys=>
  obtain⟨v1,ws,rfl,C,L⟩:=r.cons_inv;obtain⟨v2,G,rfl,N,O⟩:=L.cons_inv;cases O.nil_inv;obtain⟨B,Z,rfl,Q,k⟩:=C.tup_inv;obtain⟨J,Y,rfl,P,z⟩:=N.tup_inv;exact .inr ⟨B,J,Z,Y,rfl,Q,P,aj T .refl rep1 _ (xP rep1 Q P k z)⟩
 ·next a b _=>
  obtain⟨v1,ws,rfl,C,L⟩:=r.cons_inv;obtain⟨v2,G,rfl,N,O⟩:=L.cons_inv;cases O.nil_inv;obtain⟨B,x,Z,rfl,Q,o,t⟩:=CN rep1 C T;obtain⟨J,y,Y,rfl,P,A,u⟩:=CN rep1 N t;exact .inl ⟨B,J,Z,Y,rfl,Q,P,aj u .refl rep1 _ (v7 o A)⟩
 ·exact(ah T).elim
abbrev sU(m n:TM):aQ->M Iter:=fun ρ=>do let ds<-ae m (ae n ao) ρ;CM ds
end S4
namespace S3
open PySem PySem.Spec PyProof.Rows L2 S4
def nV(f:Expr->Option D):List Expr->Option (List D)
 |[]=>ar []
 |e::es=>match f e,nV f es with
  |some d,ar ds=>ar (d::ds)
  |_,_=>none
def litE:Nat->Expr->Option D
 |_,.Constant .none _ _=>ar .non
 |_,.Constant (.bool b) _ _=>ar (.bl b)
 |_,.Constant (.int i) _ _=>ar (.int i)
 |_,.Constant (.str x) _ _=>ar (.str x)
 |_,.UnaryOp .USub (.Constant (.int i) _ _) _=>ar (.int (-i))
 |n+1,.Tuple es _ _=>match nV (litE n) es with
  |some ds=>if ds.length<=100 then ar (.tup ds)else none
  |none=>none
 |_,_=>none
section
variable {X:Cx}{E:XD}
theorem SE.mono{m Z:TM}(h:SE X E e m)(k:∀ ρ S r,Z ρ S=ar r->m ρ S=ar r):SE X E e Z:=PE.imp h fun σ H Q q=>by
 obtain⟨ι,S,ρ,rep,re,r,Y,e,c⟩:=q;exact⟨ι,S,ρ,rep,re,r,Y,k ρ S _ e,c⟩
theorem CO(h:litE n e=ar d)(es:List Expr)(env:Env):d_ (e::es) env=(c_,gg e env)::d_ es env:=by
 cases e with
 |Constant c j p=>exact aD
 |UnaryOp o a p=>exact qC
 |Tuple l k p=>exact bq
 |_=>cases n<;>cases h
theorem zj(Z:∀e d,litE n e=ar d->SE X E e (mK d)):∀{es:List Expr} {ds:List D},nV (litE n) es=ar ds->SA X E es (fun _=>a_ ds)
 |[],ds,h=>by cases h;exact ai
 | e::es,ds,h=>by
  unfold nV at h;cases q:litE n e with
  |none=>rw[q]at h;cases h
  | some d=>
   rw[q]at h;cases q2:nV (litE n) es with
   |none=>rw[q2]at h;cases h
   |some ds'=>
    rw[q2]at h;cases h;exact af (Z e d q) (zj Z q2) (CO q _ _)
theorem HF:∀(n:Nat) (e:Expr) (d:D),litE n e=ar d->SE X E e (mK d):=by
 intro n
 induction n with
 |zero=>
  intro e d h;unfold litE at h;split at h
  ·cases h;exact gG
  ·cases h;exact dF
  ·cases h;exact aB
  ·cases h;exact nL
  ·cases h;exact xS
  ·next h'=>exact absurd h' (by omega)
  ·cases h
 | succ n ih=>
  intro e d h;unfold litE at h;split at h
  ·cases h;exact gG
  ·cases h;exact dF
  ·cases h;exact aB
  ·cases h;exact nL
  ·cases h;exact xS
  ·next m es k p hm=>
   cases hm;cases q:nV (litE n) es with
   |none=>rw[q]at h;cases h
   | some ds=>
    rw[q]at h;simp only at h;split at h
    ·next hl=>
     cases h;refine(cF (zj ih q)).mono fun ρ S r Z=>?_;have e:(do let ds'<-(a_ ds:M (List D));bU ds')=(a_ (.tup ds):M D):=by
      show bU ds=_;unfold bU;rw[if_pos (by unfold lim;omega)]
     rw[e];exact Z
    ·cases h
  ·cases h
theorem dU(n:Nat)(h:litE n e=ar d):SE X E e (mK d):=HF n e d h
end
def aN(m:TM)(ms:Bh):Bh:=ae m ms
section
variable {X:Cx}{E:XD}
theorem aU(Z:SE X E e m)(Y:SA X E es ms)(hs:d_ (e::es) X.env=(c_,gg e X.env)::d_ es X.env):SA X E (e::es) (aN m ms):=af Z Y hs
theorem iw{l p t n}:ly (.List l p) t n env=a_ false:=rfl
theorem CP{l k p t n}:ly (.Tuple l k p) t n env=a_ false:=rfl
theorem df{a o b p t n}:ly (.BinOp a o b p) t n env=a_ false:=rfl
theorem fx{f l k p t n}:ly (.Call f l k p) t n env=a_ false:=rfl
theorem jN{a b p t n}:ly (.Subscript a b p) t n env=a_ false:=rfl
theorem oK{a b p t n}:ly (.Constant a b p) t n env=a_ false:=rfl
end
end S3
namespace S7
open PySem PySem.Spec PyProof.Rows L2 S3
theorem m8{a b p}:d_ (.Attribute a b p::es) env=(c_,gg (.Attribute a b p) env)::d_ es env:=rfl
abbrev ER(m:TM):TM:=fun ρ=>o9 (m ρ)
abbrev fG(m:TM)(y:Str):TM:=fun ρ=>do let x<-m ρ;vW (fun n=>br n y) x
abbrev CQ(m:TM):TM:=fun ρ=>do let x<-m ρ;vW (fun _=>bc) x
abbrev CS(x:Str)(ms:aQ->M (List D)):cJ:=fun ρ=>do let ds<-ms ρ;if ds.length<=lim then M.raise (.exc x [])else M.fail
end S7
namespace S3
open PySem PySem.Spec PyProof.Rows L2
mutual
def fU(n:Nat):D->Bool
 | .lst k=>decide (k<n)
 | .tup ds=>cG n ds
 | .ro ds=>cG n ds
 | .fz ds=>cG n ds
 | .fn _ _ _ ds _=>cG n ds
 | .exc _ ds=>cG n ds
 | .non=>bc
 | .bl _=>bc
 | .int _=>bc
 | .str _=>bc
 | .emp=>bc
def cG(n:Nat):List D->Bool
 |[]=>bc
 |d::ds=>fU n d && cG n ds
end
mutual
def jr(n:Nat)(g:Nat->Option (List D)):D->Option D
 | .lst k=>if k<n then ar (.lst k)else (g k).map .fz
 | .tup ds=>(gZ n g ds).map .tup
 | .ro ds=>(gZ n g ds).map .ro
 | .fz ds=>(gZ n g ds).map .fz
 | .fn a c q ds vs=>(gZ n g ds).map fun es=>.fn a c q es vs
 | .exc x ds=>(gZ n g ds).map fun es=>.exc x es
 | .non=>ar .non
 | .bl b=>ar (.bl b)
 | .int i=>ar (.int i)
 | .str x=>ar (.str x)
 | .emp=>ar .emp
def gZ(n:Nat)(g:Nat->Option (List D)):List D->Option (List D)
 |[]=>ar []
 |d::ds=>match jr n g d,gZ n g ds with
  |some u,ar us=>ar (u::us)
  |_,_=>none
end
def xX(S:aF)(n:Nat):Nat->Nat->Option (List D)
 |0,_=>none
 |f+1,k=>(S[k]?).bind fun xs=>gZ n (xX S n f) xs
def qJ(S S':aF):Prop:=∀k xs,k<S.length->S'[k]? =ar xs->S[k]? =ar xs\/cG S.length xs=bc
open Classical in
def jt(m:M D):M D:=fun S=>match m S with
 | some (.ok d,S')=>if S'.length<=S.length then ar (.ok d,S')else
   if qJ S S' then (match jr S.length (xX S' S.length 60) d with
    |some u=>ar (.ok u,S'.take S.length)
    |none=>none)else none
 |r=>r
abbrev aP(m:TM):TM:=fun ρ=>jt (m ρ)
section
variable {K:dV}{ι ι':List dt}{H H':Hp}{S S':aF}
mutual
theorem RelD.cl:∀{d:D} {v:V},RelD K ι H d v->fU ι.length d=bc
 |_,_,.non=>rfl
 |_,_,.bl b=>rfl
 |_,_,.int i=>rfl
 |_,_,.str x=>rfl
 |_,_,.tup h hs=>by unfold fU;exact RelDs.cl hs
 |_,_,.lst h=>by unfold fU;exact L8 (LX.mp h).1
 |_,_,.ro h hs=>by unfold fU;exact RelDs.cl hs
 |_,_,.emp h=>rfl
 |_,_,.fn h hs=>by unfold fU;exact RelDs.cl hs
 |_,_,.exc n h=>rfl
 |_,_,.excF n h h2 hn hs=>by unfold fU;exact RelDs.cl hs
 |_,_,.fz h hs=>by unfold fU;exact RelDs.cl hs
theorem RelDs.cl:∀{ds:List D} {vs:List V},RelDs K ι H ds vs->cG ι.length ds=bc
 |_,_,.nil=>rfl
 |_,_,.cons h hs=>by unfold cG;rw[RelD.cl h,RelDs.cl hs];rfl
end
def pM(P:List dt)(os:dt->Obj)(H:Hp):Hp:=fun b=>match H b with
 |some (.lst vs)=>if b∈P then ar (.frz (os b) (.lst vs))else ar (.lst vs)
 |x=>x
theorem CT{P:List dt}{os:dt->Obj}{b:dt}(h:H b=none):pM P os H b=none:=by unfold pM;rw[h]
theorem cn{P:List dt}{os:dt->Obj}{b:dt}{o:HO}(h:H b=ar o)(Z:∀vs,o≠ .lst vs):pM P os H b=ar o:=by
 unfold pM;rw[h];cases o with
 |lst vs=>exact absurd rfl (Z vs)
 |_=>rfl
theorem zl{P:List dt}{os:dt->Obj}{b:dt}(h:b∉P):pM P os H b=H b:=by
 unfold pM;split
 ·next q=>rw[if_neg h,q]
 ·rfl
theorem HG{os:dt->Obj}(h:b∈P)(e:H b=ar (.lst vs)):pM P os H b=ar (.frz (os b) (.lst vs)):=by
 unfold pM;rw[e];exact if_pos h
theorem v8(Y:ι.Nodup)(h:ι[k]? =ar a):a∈ι.drop n↔n<=k:=by
 constructor
 ·intro hm;obtain⟨j,Z⟩:=NZ.mp hm;rw[Pf]at Z;have:=qe Y h Z;omega
 ·intro X;refine NZ.mpr ⟨k - n,?_⟩;rw[Pf,show n+(k - n)=k by omega];exact h
mutual
theorem RelD.down{n:Nat}{os:dt->Obj}:∀{d:D} {v:V},RelD K ι H d v->fU n d=bc->RelD K (ι.take n) (pM (ι.drop n) os H) d v
 |_,_,.non,_=>.non
 |_,_,.bl b,_=>.bl b
 |_,_,.int i,_=>.int i
 |_,_,.str x,_=>.str x
 |_,_,.tup h hs,c=>.tup (cn h (by intro _ z;cases z)) (RelDs.down hs (by unfold fU at c;exact c))
 |_,_,.lst h,c=>.lst (by unfold fU at c;rw[NW,if_pos (MQ c)];exact h)
 |_,_,.ro h hs,c=>.ro (h.imp (fun⟨o,h⟩=>⟨o,cn h (by intro _ z;cases z)⟩) fun z=>z) (RelDs.down hs (by unfold fU at c;exact c))
 |_,_,.emp h,_=>.emp (cn h (by intro _ z;cases z))
 |_,_,.fn h hs,c=>.fn (cn h (by intro _ z;cases z)) (RelDs.down hs (by unfold fU at c;exact c))
 |_,_,.exc n h,_=>.exc n (cn h (by intro _ z;cases z))
 |_,_,.excF n h h2 hn hs,c=>.excF n (cn h (by intro _ z;cases z)) (cn h2 (by intro _ z;cases z)) hn (RelDs.down hs (by unfold fU at c;exact c))
 |_,_,.fz h hs,c=>.fz (cn h (by intro _ z;cases z)) (RelDs.down hs (by unfold fU at c;exact c))
theorem RelDs.down{n:Nat}{os:dt->Obj}:∀{ds:List D} {vs:List V},RelDs K ι H ds vs->cG n ds=bc->RelDs K (ι.take n) (pM (ι.drop n) os H) ds vs
 |_,_,.nil,_=>.nil
 |_,_,.cons h hs,c=>by
  unfold cG at c;rw[MH]at c;exact .cons (RelD.down h c.1) (RelDs.down hs c.2)
end
theorem jO{α Z:Type}{f:α->Z}{o:Option α}{b:Z}(h:o.map f=ar b):∃a,o=ar a/\f a=b:=by
 cases o with
 |none=>cases h
 |some a=>exact⟨a,rfl,Mn h⟩
theorem CU(h:gZ n g (d::ds)=ar us):∃u us',us=u::us'/\jr n g d=ar u/\gZ n g ds=ar us':=by
 unfold gZ at h;split at h
 ·next u us' e1 e2=>cases h;exact⟨u,us',rfl,e1,e2⟩
 ·cases h
mutual
theorem CV{n:Nat}{os:dt->Obj}{g:Nat->Option (List D)}(Z:∀k us a,n<=k->g k=ar us->ι[k]? =ar a->∃vs,H a=ar (.lst vs)/\RelDs K (ι.take n) (pM (ι.drop n) os H) us vs)(Y:ι.Nodup):
  ∀{d:D} {v:V},RelD K ι H d v->∀{u:D},jr n g d=ar u->RelD K (ι.take n) (pM (ι.drop n) os H) u v
 |_,_,.non,u,e=>by unfold jr at e;cases e;exact .non
 |_,_,.bl b,u,e=>by unfold jr at e;cases e;exact .bl b
 |_,_,.int i,u,e=>by unfold jr at e;cases e;exact .int i
 |_,_,.str x,u,e=>by unfold jr at e;cases e;exact .str x
 |_,_,.tup h hs,u,e=>by
  unfold jr at e;obtain⟨es,e1,rfl⟩:=jO e;exact .tup (cn h (by intro _ z;cases z)) (jP Z Y hs e1)
 | _,_,@RelD.lst _ _ _ a k h,u,e=>by
  unfold jr at e;by_cases hk:k<n
  ·rw[if_pos hk]at e;cases e;exact .lst (by rw[NW,if_pos hk];exact h)
  ·rw[if_neg hk]at e;obtain⟨us,e1,rfl⟩:=jO e;obtain⟨vs,U,X⟩:=Z k us a (by omega) e1 h
   exact .fz (HG ((v8 Y h).mpr (by omega)) U) X
 |_,_,.ro h hs,u,e=>by
  unfold jr at e;obtain⟨es,e1,rfl⟩:=jO e;exact .ro (h.imp (fun⟨o,h⟩=>⟨o,cn h (by intro _ z;cases z)⟩) fun z=>z) (jP Z Y hs e1)
 |_,_,.emp h,u,e=>by unfold jr at e;cases e;exact .emp (cn h (by intro _ z;cases z))
 |_,_,.fn h hs,u,e=>by
  unfold jr at e;obtain⟨es,e1,rfl⟩:=jO e;exact .fn (cn h (by intro _ z;cases z)) (jP Z Y hs e1)
 |_,_,.exc x h,u,e=>by
  unfold jr at e;obtain⟨es,e1,rfl⟩:=jO e;unfold gZ at e1;cases e1;exact .exc x (cn h (by intro _ z;cases z))
 |_,_,.excF x h X hn hs,u,e=>by
  unfold jr at e;obtain⟨es,e1,rfl⟩:=jO e;exact .excF x (cn h (by intro _ z;cases z)) (cn X (by intro _ z;cases z)) hn (jP Z Y hs e1)
 |_,_,.fz h hs,u,e=>by
  unfold jr at e;obtain⟨es,e1,rfl⟩:=jO e;exact .fz (cn h (by intro _ z;cases z)) (jP Z Y hs e1)
theorem jP{n:Nat}{os:dt->Obj}{g:Nat->Option (List D)}(Z:∀k us a,n<=k->g k=ar us->ι[k]? =ar a->∃vs,H a=ar (.lst vs)/\RelDs K (ι.take n) (pM (ι.drop n) os H) us vs)(Y:ι.Nodup):
  ∀{ds:List D} {vs:List V},RelDs K ι H ds vs->∀{us:List D},gZ n g ds=ar us->RelDs K (ι.take n) (pM (ι.drop n) os H) us vs
 |_,_,.nil,us,e=>by unfold gZ at e;cases e;exact .nil
 |_,_,.cons h hs,us,e=>by
  obtain⟨u,X,rfl,e1,e2⟩:=CU e;exact .cons (CV Z Y h e1) (jP Z Y hs e2)
end
theorem ES(Z:Rep K ι H S){n:Nat}{os:dt->Obj}:∀f k us a,n<=k->xX S n f k=ar us->ι[k]? =ar a->∃vs,H a=ar (.lst vs)/\RelDs K (ι.take n) (pM (ι.drop n) os H) us vs:=by
 intro f
 induction f with
 |zero=>intro k us a _ e;cases e
 | succ f ih=>
  intro k us a T e X;unfold xX at e;cases z:S[k]? with
  |none=>rw[z]at e;cases e
  |some xs=>
   rw[z]at e;obtain⟨vs,U,Y⟩:=Z.get k a xs X z;exact⟨vs,U,jP (ih) Z.nd Y e⟩
theorem CY(Y:Rep K ι H S)(x:Ext ι H ι' H')(Z:Rep K ι' H' S')(O:qJ S S')(os:dt->Obj):
  Ext ι H ι (pM (ι'.drop ι.length) os H')/\Rep K ι (pM (ι'.drop ι.length) os H') (S'.take ι.length):=by
 obtain⟨more,rfl⟩:=id x.ids;have P:(ι++more).take ι.length=ι:=by simp
 refine⟨⟨⟨[],by simp⟩,fun a o h n t=>?_⟩,⟨Y.nd,?_,fun k a xs e1 e2=>?_,Z.tab.mono fun a o h n=>cn h n⟩⟩
 ·obtain⟨R,U⟩:=x.oth a o h n t;rw[zl (fun z=>U (List.mem_of_mem_drop z))];exact⟨R,n⟩
 ·have:=Z.len;rw[MK, <-this,LW];omega
 ·have T:k<ι.length:=(LX.mp e1).1;rw[NW,if_pos T]at e2;have X:(ι++more)[k]? =ar a:=by rw[Mv T];exact e1
  obtain⟨vs,R,U⟩:=Z.get k a xs X e2;refine⟨vs,?_,?_⟩
  ·rw[zl (fun z=>by have:=(v8 Z.nd X).mp z;omega)];exact R
  ·have Q:cG ι.length xs=true:=by
    rcases O k xs (by rw[<-Y.len];exact T) e2 with z|z
    ·obtain⟨_,_,N⟩:=Y.get k a xs e1 z;exact N.cl
    ·rw[Y.len];exact z
   have:=RelDs.down (n:=ι.length) (os:=os) U Q;rw[P]at this;exact this
end
section
variable {X:Cx}{E:XD}{e:Expr}{m:TM}{pins:List (dt×Obj)}{σ:L2.St}{H:Hp}{s:b_}
theorem Inv.fz(I:L2.Inv X pins σ H s)(P:List dt):∃os,L2.Inv X pins σ (pM P os H) s:=by
 refine⟨fun a=>(s.heap.get? a).getD {cls:=.none,data:=.fields #[]},?_⟩;have Z:Un X.fs [] H (pM P (fun a=>(s.heap.get? a).getD {cls:=.none,data:=.fields #[]}) H) s.heap s.heap:=
  ⟨fun b o q _ _ _=>q,fun b o q _ _ _=>⟨o.slots,q⟩,fun b o _ n _=>CT n,fun b o q _=>⟨o,q⟩,fun b xs q=>cn q (by intro _ z;cases z),fun b o u q=>cn q (by intro _ z;cases z),fun b Y q=>⟨#[],by rw[cn q (by intro _ z;cases z)];simp⟩⟩
 refine I.un (t':=s.toks) Z fun b o q=>?_;have st:∀u,H b=ar u->bo X.prog X.w (pM P (fun a=>(s.heap.get? a).getD {cls:=.none,data:=.fields #[]}) H) s.heap b u:=fun u Z=>
  (I.hok b u Z).stay (fun _ _ _ z=>z) (fun c z=>cn z (by intro _ z;cases z)) fun c xs z=>cn z (by intro _ z;cases z)
 unfold pM at q;split at q
 ·next vs hb=>
  split at q
  ·cases q;obtain⟨z,its,n,r,e⟩:=(show bo X.prog X.w H s.heap b (.lst vs)from I.hok b _ hb);exact⟨by dsimp only;rw[e];rfl,z,its,n,r,e⟩
  ·cases q;exact st _ hb
 ·exact st _ q
theorem aE(h:SE X E e m):SE X E e (aP m):=by
 intro pins s σ H Q I N;obtain⟨ι,S,ρ,rep,re,r,O,C,k⟩:=N;have Z:jt (m ρ) S=ar (r,O):=C;unfold jt at Z;cases q:m ρ S with
 |none=>rw[q]at Z;cases Z
 | some p=>
  obtain⟨F,R⟩:=p;rw[q]at Z;cases F with
  |ex x=>
   cases Z;exact h pins s σ H Q I ⟨ι,S,ρ,rep,re,.ex x,_,q,k⟩
  | ok d=>
   dsimp only at Z;by_cases hl:R.length<=S.length
   ·rw[if_pos hl]at Z;cases Z;exact h pins s σ H Q I ⟨ι,S,ρ,rep,re,.ok d,_,q,k⟩
   ·rw [if_neg hl]at Z;by_cases hk:qJ S R
    ·rw [if_pos hk]at Z;cases z:jr S.length (xX R S.length 60) d with
     |none=>rw[z]at Z;cases Z
     | some u=>
      rw[z]at Z;cases Z;refine eR (h pins s σ H (fun v T=>∃P:List dt,∀os,Q v (pM P os T)) I ⟨ι,S,ρ,rep,re,.ok d,R,q,fun W T x Y v L=>?_⟩) fun uv s' ⟨v,T,I',L,P,hq⟩=>?_
      ·refine⟨W.drop ι.length,fun os=>?_⟩;obtain⟨G,rep2⟩:=CY rep x Y hk os;have U:Rep X.K ι (pM (W.drop ι.length) os T) (R.take S.length):=by rw[<-rep.len];exact rep2
       have N:W.take ι.length=ι:=by obtain⟨more,rfl⟩:=x.ids;simp
       have rel:RelD X.K ι (pM (W.drop ι.length) os T) u v:=by
        have:=CV (n:=ι.length) (os:=os) (fun k us a=>by rw[rep.len];exact ES Y 60 k us a) Y.nd L (by rw[rep.len];exact z)
        rw[N]at this;exact this
       exact k ι _ G U v rel
      ·obtain⟨os,J⟩:=Inv.fz I' P;exact⟨v,_,J,L,hq os⟩
    ·rw[if_neg hk]at Z;cases Z
end
end S3
namespace S4
open PySem PySem.Spec PyProof.Rows L2 S3
theorem HH{A:gd}(S:A.handled=none)(X:t≠it)(items:Array aC):
  Draws prog w A it [it,t] items.size (fun i v=>items[i]? =ar v) (fun i h=>h.IsTupleIter it t i/\h.IsTuple t items) where
 live:=fun _ _ st=>let ⟨⟨o,ho,_⟩,_⟩:=st;⟨o,ho⟩
 frame:=fun _ _ _ st W=>⟨st.1.at fun o e=>W it (by simp) o e,let ⟨o,e,r⟩:=st.2;⟨o,W t (by simp) o e,r⟩⟩
 item:=fun i s Q E hi st T=>jM st.1 st.2 (x:=items[i]) (by simp[hi]) fun h' Z Y=>T _ h' s.toks (by simp[hi]) ⟨Z,let ⟨o,e,r⟩:=st.2;⟨o,Y.extBut _ _ X e,r⟩⟩ Y
 done:=fun s Q E st U=>lb S st.1 st.2 (by simp) U
theorem HI{A:gd}(S:A.handled=none)(X:t≠it)(items:Array aC):
  Draws prog w A it [it,t] items.size (fun i v=>items[i]? =ar v) (fun i h=>h.IsListIter it t i/\h.IsList t items) where
 live:=fun _ _ st=>let ⟨⟨o,ho,_⟩,_⟩:=st;⟨o,ho⟩
 frame:=fun _ _ _ st W=>⟨st.1.at fun o e=>W it (by simp) o e,let ⟨o,e,r⟩:=st.2;⟨o,W t (by simp) o e,r⟩⟩
 item:=fun i s Q E hi st T=>wpAny_nextOf_list_item st.1 st.2 (x:=items[i]) (by simp[hi]) fun h' Z Y=>T _ h' s.toks (by simp[hi]) ⟨Z,let ⟨o,e,r⟩:=st.2;⟨o,Y.extBut _ _ X e,r⟩⟩ Y
 done:=fun s Q E st U=>wpAny_nextOf_list_end S st.1 st.2 (by simp) U
def Kd(rd:Hp->List V->Prop):It:=⟨fun i H=>∃va,rd H va/\i<va.length,fun i H x H'=>∃va p v,rd H va/\H p=none/\va[i]? =ar v/\x= .ref p/\H'=upd H p (.tup [.int i,v]),fun i H=>∃va,rd H va/\va.length<=i⟩
theorem sV{P:ee}{w:eM}{K:dV}{N:List Expr}{x1}{tp:Pos}{e it t:dt}(R:e≠it)(a6:t≠e)(c2:t≠it){rd:Hp->List V->Prop}{sti:Nat->fg->Prop}{sq:Array aC->fg->Prop}
  (so:∀i h,sti i h->∃o,h.get? it=ar o/\∀v,o.data≠ .cell v) (sk:∀i h h',sti i h->(∀o,h.get? it=ar o->h'.get? it=ar o)->sti i h')
  (G:∀(X:Cx) pins s σ H U,X.prog=P->X.w=w->X.K=K->L2.Inv X pins σ H s->rd H U->∃its:List aC,bh U its/\sq its.toArray s.heap)
  (dr:∀(A:gd) (items:Array aC),A.handled=none->Draws P w A it [it,t] items.size (fun i v=>items[i]? =ar v) (fun i h=>sti i h/\sq items h))
  (dn:∀(A:gd) (items:Array aC) (i:Nat) (s:b_) (Q:aC->b_->Prop) (E:aC->b_->Prop),A.handled=none->sti i s.heap->sq items s.heap->items[i]? =none->
   (∀h' e,Q8 it s.heap h'->(∃o,h'.get? e=ar o/\o.cls= .type "StopIteration")->E (.ref e) {s with heap:=h'})->eb (e_ P w) A (ip (.ref it)) Q E s):
  Turn P w K (.Tuple N x1 tp) (Kd rd) [e,it] e (fun i h=>(∃old,IsEnum h e it i old)/\sti i h) where
 mem:=by simp
 obj:=fun i h st b Z=>by
  obtain⟨⟨old,he⟩,hs⟩:=st;simp only[f_,fb,or_false]at Z;rcases Z with rfl|rfl
  ·exact⟨_,he,fun v z=>by cases z⟩
  ·exact so i h hs
 keep:=fun i h h' st k=>by
  obtain⟨⟨old,he⟩,hs⟩:=st;exact⟨⟨old,k e (by simp) _ he⟩,sk i h h' hs fun o q=>k it (by simp) o q⟩
 item:=by
  intro X g hw n m i pins s σ H E I hf st d;subst g hw n;obtain⟨⟨old,he⟩,hs⟩:=st;obtain⟨U,y,ga⟩:=d;obtain⟨its,B,pl⟩:=G X pins s σ H U rfl rfl rfl I y;have hl:=B.length;obtain⟨u1,a,l⟩:=B.get (LV ga);have D:=dr X.A.in1 its.toArray (by show X.A.handled=none;exact I.ok.hd m)
  refine wpAny_pyNext_enum_itemD D he ⟨hs,pl⟩ (by rw[L6];omega) R (by simp[R,kr a6]) fun x h' u hx a5 p C hz hk=>?_
  have S:x=u1:=by
   have:its[i]? =ar x:=by simpa using hx
   rw[a]at this;exact(Mn this).symm
  subst S;have f:H s.heap.objs.size=none:=I.hok.fresh (LU _);have lt:∀{c o},s.heap.get? c=ar o->s.heap.objs.size≠c:=fun e=>Nn (LZ e);obtain⟨oi,j,_⟩:=so i _ hs;refine⟨_,rfl,wpAny_letOwnedTupleGo_enum a5 fun O J Y=>?_⟩;have kk:∀b o,b∉[e,it]->s.heap.get? b=ar o->O.get? b=ar o:=fun b o Z q=>by
   simp only[f_,fb,or_false,not_or]at Z;exact Y.extBut _ _ Z.1 (hk b o Z.1 Z.2 q)
  have L:O.get? s.heap.objs.size=ar {cls:=.type "tuple",data:=.seq #[.int i u,x]}:=Y.extBut _ _ (lt he) C;have I2:L2.Inv X pins σ (upd H s.heap.objs.size (.tup [.int i,U[i]])) {s with heap:=O,toks:=u+1}:=uC (o:=.tup [.int i,U[i]]) I hf kk (LU _) ⟨⟨by show 2<=sizeLine;decide,_,L,rfl⟩,[.int i u,x],.cons ⟨u,rfl⟩ (.cons l .nil),_,L,rfl,_,rfl⟩
  refine⟨.ref s.heap.objs.size,_,I2,rfl,⟨U,_,_,y,f,LV ga,rfl,rfl⟩,⟨⟨_,J⟩,sk _ _ _ p.1 fun o q=>(Y.2 it (kr R)).trans q⟩,fun b Z=>?_⟩;obtain⟨ob,ho,_⟩:∃ob,s.heap.get? b=ar ob/\True:=by
   simp only[f_,fb,or_false]at Z;rcases Z with rfl|rfl
   ·exact⟨_,he,trivial⟩
   ·exact⟨_,j,trivial⟩
  rw[aI (L7 (LZ ho))];exact(hf b Z).1
 done:=by
  intro X g hw n m i pins s σ H E I hf st d;subst g hw n;obtain⟨⟨old,he⟩,hs⟩:=st;obtain⟨U,y,ga⟩:=d;obtain⟨its,B,pl⟩:=G X pins s σ H U rfl rfl rfl I y;have hl:=B.length;have C:s.TypeIs (.ref e) "enumerate":=⟨_,he,rfl⟩;unfold z_;refine LP (N6 (wpAny_callSpecial?_slot (name:=hO "__next__") C F.slot_enumerate_next
   (ML F.slot_enumerate_next C F.entry_enumerate_next ?_ (F.args_enumerate_next_1 _))))
  show eb _ _ (Q9 (.ref e) 2>>=_) _ _ _;refine LP (MN he rfl (x:=.ref it) rfl ?_);refine LP (dn X.A.in1 its.toArray i s _ _ (by show X.A.handled=none;exact I.ok.hd m) hs pl (by simp;omega) fun h' x r S=>?_)
  obtain⟨o,ho,a3⟩:=S;refine LP (NO (T:="StopIteration") (b:=bc) ⟨o,ho,a3⟩ ON ?_);exact LS ⟨rfl,uB (t':=s.toks) I hf fun b o Z q=>r b o (fun z=>Z (by simp[z])) q⟩
 self:=fun _ _ _ _ _ st h=>by
  obtain⟨⟨old,he⟩,_⟩:=st;exact PD he h
theorem v9(l:dt)(items:Array aC):
  Sa (Builtin.«enumerate.__new__» ⟨[.type "enumerate",.ref l],[]⟩) (fun _ R s=>s.heap.IsTuple l items/\
   R (.ok (.ret (.ref (s.heap.push (DT l)).objs.size)))
    {s with heap:=(s.heap.push (DT l)).push {cls:=.type "enumerate",data:=.fields #[.none,.bool c_,.ref s.heap.objs.size,m_ 0,.none,.none]}}):=
 .of_wp fun prog w A R s h=>by
  obtain⟨P,g,d,Q,os⟩:=s;obtain⟨W,h⟩:=h;have U:=sub_enumerate;have X:QS (Ra ⟨P,g,d,Q,os⟩) l items:=W;obtain⟨⟨c,T,S,O⟩,Z,Y,n,hd⟩:=W;replace Y:c= .type "tuple":=Y;replace hd:S= .seq items n:=hd;subst Y hd
  wp_walk using NB Z
  refine wpAny_stack_any fun st=>LS ?_;split
  ·rename_i c _ _ _ _ _
   cases (c==t5 "enumerate")
   ·wp_walk using NB Z,Nk X
    exact⟨_,rfl,h⟩
   ·wp_walk using NB Z,Nk X
    exact⟨_,rfl,h⟩
  ·wp_walk using NB Z,Nk X
   exact⟨_,rfl,h⟩
section
variable {prog:ee}{w:eM}{A:gd}{E:aC->b_->Prop}{s:b_}
theorem xY{Q:aC->b_->Prop}(Y:s.heap.IsTuple l items)
  (h:∀h',IsEnum h' (s.heap.objs.size+1) s.heap.objs.size 0 .none->h'.IsTupleIter s.heap.objs.size l 0->(∀b o,s.heap.get? b=ar o->h'.get? b=ar o)->Q (.ref (s.heap.objs.size+1)) {s with heap:=h'}):
  eb (e_ prog w) A (call (.type "enumerate") [.ref l]) Q E s:=by
 refine callType_new F.called_enumerate (by decide) (F.typeCall_enumerate_1 _) (F.newCall_enumerate_1 _) (fun obj=>F.args_object_init_2 obj _) F.entry_enumerate_new (v9 l items) ⟨Y,?_⟩
 have Z:(s.heap.push (DT l)).objs.size=s.heap.objs.size+1:=M5 ..;have g2:=L3 (s.heap.push (DT l)) (o:={cls:=.type "enumerate",data:=.fields #[.none,.bool c_,.ref s.heap.objs.size,m_ 0,.none,.none]}) rfl;have g1:((s.heap.push (DT l)).push {cls:=.type "enumerate",data:=.fields #[.none,.bool c_,.ref s.heap.objs.size,m_ 0,.none,.none]}).get? s.heap.objs.size=ar (DT l):=LQ _ (L3 _ rfl);show _/\_;rw[Z]at g2⊢;exact⟨⟨_,g2,rfl⟩,h _ g2 ⟨_,g1,rfl,rfl⟩ fun b o q=>LQ _ (LQ _ q)⟩
end
theorem ET{X:Cx}{T:List Expr}{x1}{tp p pos:Pos}{e:Expr}{y:TA}(w:Gl X "enumerate")(r:X.mg "enumerate"=none)(x:PA X [e] y)(hs:d_ [e] X.env=[(c_,gg e X.env)]:=by rfl):
  PI X (.Tuple T x1 tp) (.Call (.Name "enumerate" p) [e] [] pos) (fun σ H R=>y σ H fun xs Z=>(∃a Y,xs=[.ref a]/\Z a=ar (.tup Y)/\R (Kd fun H C=>H a=ar (.tup C)) Z)\/
   (∃a Y,xs=[.ref a]/\Rd Z a (.lst Y)/\R (Kd fun H C=>Rd H a (.lst C)) Z)):=by
 intro pins s σ H R I h;refine R_ (lU I w r (show lx "enumerate"=ar (.type "enumerate") by decide+kernel) (M8 (eR (x pos pins s σ H _ I h) fun us s1 ⟨vs,Z,I1,r1,q1⟩=>?_) hs (by rfl)) (by decide) (by decide))
 have fresh:∀c∈[s1.heap.objs.size+1,s1.heap.objs.size],s1.heap.objs.size<=c:=fun c W=>by
  simp only[f_,fb,or_false]at W;omega
 rcases q1 with⟨a,Y,rfl,hA,q⟩|⟨a,Y,rfl,hA,q⟩
 ·obtain⟨u,rfl,K⟩:=vals1 r1;cases (show u=er a from K);obtain⟨P,L,S,_⟩:=I1.tuple (.of hA);have a1:a<s1.heap.objs.size:=by obtain⟨_,e,_⟩:=S;exact LZ e
  refine xY S fun h' O hi G=>PD O ?_;refine⟨s1.heap.objs.size+1,_,_,_,Z,rfl,I1.kept (t':=s1.toks) G,sV (e:=s1.heap.objs.size+1) (it:=s1.heap.objs.size) (t:=a) (PV _) (L7 (M3 a1)) (L7 a1) (sti:=fun i h=>h.IsTupleIter s1.heap.objs.size a i) (sq:=fun its h=>h.IsTuple a its)
   (fun i h ⟨o,e,c,d⟩=>⟨o,e,fun v z=>by rw[d]at z;cases z⟩) (fun i h h' st k=>st.at k) (fun X pins s σ H Y _ _ _ I B=>let ⟨its,rv,p,_⟩:=I.tuple (.of B);⟨its,rv,p⟩)
   (fun A items U=>HH U (L7 a1) items) (fun A items i s Q E U F N J k=>lb U F N J k),⟨⟨_,O⟩,hi⟩,fun c W=>I1.fpOk (fresh c W) (I1.hok.fresh (fresh c W)),q⟩
 ·obtain⟨u,rfl,K⟩:=vals1 r1;cases (show u=er a from K);obtain⟨P,L,S,_⟩:=I1.list (.inl hA);have a1:a<s1.heap.objs.size:=by obtain⟨_,e,_⟩:=S.isList;exact LZ e
  refine call_enumerate_list S.isList fun h' O hi n G=>PD O ?_;refine⟨s1.heap.objs.size+1,_,_,_,Z,rfl,I1.kept (t':=s1.toks) G,sV (e:=s1.heap.objs.size+1) (it:=s1.heap.objs.size) (t:=a) (PV _) (L7 (M3 a1)) (L7 a1) (sti:=fun i h=>h.IsListIter s1.heap.objs.size a i) (sq:=fun its h=>h.IsList a its)
   (fun i h ⟨o,e,c,d⟩=>⟨o,e,fun v z=>by rw[d]at z;cases z⟩) (fun i h h' st k=>st.at k) (fun X pins s σ H Y _ _ _ I B=>let ⟨its,rv,p,_⟩:=I.list (.inl B);⟨its,rv,p.isList⟩)
   (fun A items U=>HI U (L7 a1) items) (fun A items i s Q E U F N J k=>wpAny_nextOf_list_end U F N J k),⟨⟨_,O⟩,hi⟩,fun c W=>I1.fpOk (fresh c W) (I1.hok.fresh (fresh c W)),q⟩
def lJ(xs:List D):List D:=xs.zipIdx.map fun p=>.tup [.int p.2,p.1]
def FU:D->M Iter
 | .tup xs=>a_ ⟨lJ xs,.none⟩
 | .fz xs=>a_ ⟨lJ xs,.none⟩
 |_=>M.fail
theorem CZ{xs:List D}{i:Nat}{d:D}(h:(lJ xs)[i]? =ar d):∃x,xs[i]? =ar x/\d= .tup [.int i,x]:=by
 unfold lJ at h;rw[Mi]at h;cases q:xs.zipIdx[i]? with
 |none=>rw[q]at h;cases h
 |some p=>
  rw[q]at h;cases h;rw[List.getElem?_zipIdx]at q;cases z:xs[i]? with
  |none=>rw[z]at q;cases q
  |some x=>rw[z]at q;cases q;exact⟨x,rfl,by simp⟩
theorem oM{K:dV}{ι:List dt}{H:Hp}{xs:List D}{T:Hp->List V->Prop}(S:∀H X vb,T H X->T H vb->X=vb)
  (U:∀Z Y S2,ExtN ι H Z Y->Rep K Z Y S2->∃X,T Y X/\RelDs K Z Y xs X):ku K ⟨lJ xs,.none⟩ (Kd T) ι H:=by
 intro Z Y S2 e rep2 ok i;obtain⟨X,R,O⟩:=U Z Y S2 e rep2;have J:=O.length;refine⟨fun d hd=>?_,fun hlen=>⟨X,R,by unfold lJ at hlen;simp at hlen;omega⟩⟩
 obtain⟨x,P,rfl⟩:=CZ hd;have L:=(LX.mp P).1;refine⟨⟨X,R,by omega⟩,?_⟩
 rintro v H3 ⟨va',p,v1,gA,hp,g1,rfl,rfl⟩;cases S _ _ _ R gA;obtain⟨v2,e2,N⟩:=O.get' P;obtain rfl:v2=v1:=Mn (e2.symm.trans g1);have Q:Ext Z Y Z (upd Y p (.tup [.int i,v2])):=fi hp;exact⟨Q,gf rep2 hp,.tup aV (.cons (.int _) (.cons (N.later rep2 Q) .nil))⟩
theorem EU{X:Cx}{E:XD}{Y:List Expr}{x1}{tp p pos:Pos}{a:Expr}{m:TM}(J:X.mg "enumerate"=none)(P:SE X E a m)(O:Gl X "enumerate":=by rfl)(hs:d_ [a] X.env=[(c_,gg a X.env)]:=by rfl):
  SI X E (.Tuple Y x1 tp) (.Call (.Name "enumerate" p) [a] [] pos) (fun ρ=>do let x<-m ρ;FU x):=by
 intro pins s σ H R I h;refine ET O J (fM P kh hs) hs pins s σ H R I ?_;obtain⟨ι,S,ρ,rep,re,c⟩:=h;refine⟨ι,S,ρ,rep,re,az (aq c) fun d K S1 G e1 rep1 U v r=>?_⟩;show(∃a Q,[v]=[V.ref a]/\_)\/_;cases d with
 |tup xs=>
  obtain⟨a,vs,rfl,Z,W⟩:=r.tup_inv;refine .inl ⟨a,vs,rfl,Z,aj U .refl rep1 _ (oM (fun H Q N e1 e2=>by rw[e1]at e2;cases e2;rfl) fun T L S2 e rep2=>?_)⟩
  exact⟨vs,(e.oth _ _ Z (rep1.notIn Z (by intro _ z;cases z)) (by intro _ z;cases z) (by intro _ z;cases z)).1,W.laterN rep1 e⟩
 |fz xs=>
  obtain⟨a,o,vs,rfl,Z,W⟩:=r.fz_inv;refine .inr ⟨a,vs,rfl,.inr ⟨o,Z⟩,aj U .refl rep1 _ (oM (fun H Q N e1 e2=>Rd.lst_inj e1 e2) fun T L S2 e rep2=>?_)⟩;exact⟨vs,.inr ⟨o,(e.oth _ _ Z (rep1.notIn Z (by intro _ z;cases z)) (by intro _ z;cases z) (by intro _ z;cases z)).1⟩,W.laterN rep1 e⟩
 |_=>exact(ah U).elim
abbrev FV(m:TM):aQ->M Iter:=fun ρ=>do let x<-m ρ;FU x
end S4
namespace S3
open PySem PySem.Spec PyProof.Rows L2
section
variable {X:Cx}{E:XD}{a b e c o tg:Expr}{m n l:TM}{pos p2:Pos}{es:List Expr}{ms:aQ->M (List D)}
end
end S3
section
namespace S3
open PySem PySem.Spec PyProof.Rows L2
section
variable {prog:ee}{w:eM}{A:gd}{R:RW->b_->Prop}{s:b_}
end
section
variable {X:Cx}{pins:List (dt×Obj)}{σ:St}{H:Hp}{s:b_}
end
end S3
namespace S3
open PySem PySem.Spec PyProof.Rows L2
section
variable {X:Cx}{scope:Scope}{Nc:List Str}{js:List (Option Nat)}{pins:List (dt×Obj)}{σ:St}{H:Hp}{s:b_}
end
end S3
end
namespace S3
open PySem PySem.Spec PyProof.Rows L2
section
variable {K:dV}{p:dt}{Q:D->List dt->aF->Hp->Prop}
structure MkL(K:dV)(p:dt)(ι:List dt)(S:aF)(ρ:aQ)(σ:St)(H:Hp)(xs:List D):Prop where
 rep:Rep K ι (hZ H p) S
 re:RelE K ι (hZ H p) ρ σ
 lst:∃vs,H p=ar (.lst vs)/\RelDs K ι (hZ H p) xs vs
 out:p∉ι
section
variable {X:Cx}{scope:Scope}{Nc:List Str}{js:List (Option Nat)}{elt tg iter tg2 iter2:Expr}{ifs ifs2:List Expr}{pos:Pos}{mi mi2:aQ->M Iter}{g g2:nD}{t t2:aQ->M Bool}{m:TM}
end
end
end S3
namespace S7
open PySem PySem.Spec PyProof.Rows L2 S3
section
open Sem (wp)
section
variable {prog:ee}{w:eM}{A:gd}{E:aC->b_->Prop}{h:fg}{g:Array P9}{d:Drawn}{t:Nat}{os:Qn}
variable {nm q:Str}{C N:dt}{bs bm bmB:List aC}{hdct:Bool}{sn:List Str}{sub:List aC}{ab:Bool}{col:Option Bool}{dd:Option dt}{k0 k1 k2 k3 k5:Option aC}{B Bn newId nid initId inN:String}{bmN:List aC}
theorem pj(L:x_ Bn newId inN bmN)(R:bmB.contains (.type Bn)=bc)(F:x_ B nid initId bmB)(T:Re h bmB bm){mN:Str->Option aC}{rest:List aC}{fI:dt}{oI:Obj}{Q:Fin->b_->Prop}
  (U:h.get? C=ar (wh nm q C N bs bm hdct sn sub ab col dd k0 k1 k2 k3 k5 newId)) (G:h.Ns N mN) (hi:mN "__init__"=ar (.ref fI)) (K:h.get? fI=ar oI) (O:oI.cls= .type "function")
  (J:∀h' e,Qm h h' e (.ref C) rest->
   eb (e_ prog w) A (call (.ref fI) (.ref e::rest)) (fun r s'=>r= .none/\Q (.done (.ret (.ref e))) s') E ⟨h',g,d,t,os⟩) (hrest:rest.length<=sizeLine:=by size_fits):
  eb (e_ prog w) A (Builtin.«type.__call__» ⟨.ref C::rest,[]⟩) Q E ⟨h,g,d,t,os⟩:=by
 repeat (first|with_reducible refine N7 U ?_ |with_reducible refine wpAny_madeBy_exc U ?_ |wp_step)
 refine codeAny_call_builtin_code (Pg _ L.quiet) (wpAny_check_new_subU L R T U ?_);refine codeAny_exc_new_subU L R F T U ?_ hrest;show eb _ _ _ _ _ _;have Z:=LQ {cls:=.ref C,data:=.fields #[.ref h.objs.size,.none,.none,.none,.bool c_,.none]}
  (LQ {cls:=.type "tuple",data:=.seq rest.toArray} U)
 have Y:=LQ {cls:=.ref C,data:=.fields #[.ref h.objs.size,.none,.none,.none,.bool c_,.none]}
  (LQ {cls:=.type "tuple",data:=.seq rest.toArray} K)
 have W:((h.push {cls:=.type "tuple",data:=.seq rest.toArray}).push {cls:=.ref C,data:=.fields #[.ref h.objs.size,.none,.none,.none,.bool c_,.none]}).Ns N mN:=
  let ⟨o,es,ep,e,r⟩:=G;⟨o,es,ep,LQ _ (LQ _ e),r⟩
 have X:((h.push {cls:=.type "tuple",data:=.seq rest.toArray}).push
   {cls:=.ref C,data:=.fields #[.ref h.objs.size,.none,.none,.none,.bool c_,.none]}).get? (h.objs.size+1)=ar
   {cls:=.ref C,data:=.fields #[.ref h.objs.size,.none,.none,.none,.bool c_,.none]}:=by heap_get
 have P:(er C::bm).contains (.ref C)=true:=by simp
 have S:=T.keeps (h':=(h.push {cls:=.type "tuple",data:=.seq rest.toArray}).push {cls:=.ref C,data:=.fields #[.ref h.objs.size,.none,.none,.none,.bool c_,.none]})
  fun b o e=>LQ _ (LQ _ e)
 unfold QH
 repeat (first|with_reducible refine N7 X ?_ |(with_reducible refine wpAny_isSubtype_exc Z ?_;rw[P])|wp_step)
 show eb _ _ (typeLookup (.ref C) _) _ _ _;refine wpAny_typeLookup_tail Z W S F.mroIs F.init.lookup ?_;rw[hi];refine ME (LP ?_);unfold bindSpecial;refine LP (NY (T:="function") ⟨_,Y,O⟩ ?_);rw[if_pos (by decide)]
 refine LS (LP (MJ (J _ (h.objs.size+1) ⟨fun b o H=>LQ _ (LQ _ H),MV (Oh _),h.objs.size,X,MV (LU _),?_⟩) (fun r s' z=>?_) fun _ _ x=>x))
 ·exact LQ _ (Heap.get?_push_at rfl rfl)
 ·obtain⟨rfl,I⟩:=z
  wp_walk
  exact I
theorem xZ(S:x_ Bn newId inN bmN)(X:bmB.contains (.type Bn)=bc)(F:x_ B nid initId bmB)(T:Re h bmB bm){mN:Str->Option aC}{rest:List aC}{fI:dt}{oI:Obj}{Q:aC->b_->Prop}
  (Z:h.get? C=ar (wh nm q C N bs bm hdct sn sub ab col dd k0 k1 k2 k3 k5 newId)) (R:h.Ns N mN) (hi:mN "__init__"=ar (.ref fI)) (W:h.get? fI=ar oI) (Y:oI.cls= .type "function")
  (U:∀h' e,Qm h h' e (.ref C) rest->
   eb (e_ prog w) (A.under (.builtin "type.__call__" ⟨.ref C::rest,[]⟩)) (call (.ref fI) (.ref e::rest)) (fun r s'=>r= .none/\Q (.ref e) s') E ⟨h',g,d,t,os⟩) (hrest:rest.length<=sizeLine:=by size_fits):
  eb (e_ prog w) A (call (.ref C) rest) Q E ⟨h,g,d,t,os⟩:=by
 have f1:=tc_lookup;have f2:=tc_bind (.ref C);have P:(⟨h,g,d,t,os⟩:b_).TypeIs (.ref C) "type":=⟨_,Z,rfl⟩;refine OG (P3 ?_);show eb _ _ (callAny (.ref C) _) _ _ _
 repeat (any_goals (first|assumption|with_reducible refine N7 Z ?_ |wp_step))
 refine⟨rfl,?_⟩;refine codeAny_call_builtin_at (Pg _ (by decide+kernel)) entry_typeCall (wpAny_check_type_call_sub Z (pj (hrest:=hrest) S X F T Z R hi W Y fun h' e hm=>?_))
 exact U h' e hm
end
section
variable {M:Ry}{A:gd}{E:aC->b_->Prop}{env:Env}
variable {nm q:Str}{C N:dt}{bs bm:List aC}{hdct:Bool}{sn:List Str}{sub:List aC}{ab:Bool}{col:Option Bool}{dd:Option dt}{k0 k1 k2 k3 k5:Option aC}{newId:String}
theorem iM(Y:bm.contains (.type "BaseException")=bc)(S:A.handled=none)
  (h:eb M A x (fun v Z=>∃e t od,v= .ref e/\Z.heap.get? C=ar (wh nm q C N bs bm hdct sn sub ab col dd k0 k1 k2 k3 k5 newId)/\Z.heap.get? e=ar {cls:=.ref C,dict:=od,data:=.fields #[.ref t,.none,.none,.none,.bool c_,.none]}/\E (.ref e) Z) E s):
  eb M A (raiseStmt env (ar x) none) Q E s:=by
 have W:(er C::bm).contains (.type "BaseException")=true:=by rw[List.contains_cons,Y,P5]
 unfold raiseStmt;refine LP (MJ h (fun v Z X=>?_) fun _ _ x=>x);obtain⟨e,t,od,rfl,U,he,T⟩:=X;obtain⟨P,g,d,R,os⟩:=Z
 repeat (first|with_reducible refine N7 he ?_ |with_reducible refine N7 U ?_ |(with_reducible refine wpAny_isSubtype_exc U ?_;rw[W])|wp_step)
 exact wpAny_raiseNew_none S T
end
section
variable {prog:ee}{w:eM}{A:gd}{E:aC->b_->Prop}{s:b_}{env:Env}
variable {nm q:Str}{C N:dt}{bs bm bmB:List aC}{hdct:Bool}{sn:List Str}{sub:List aC}{ab:Bool}{col:Option Bool}{dd:Option dt}{k0 k1 k2 k3 k5:Option aC}{B Bn newId nid initId inN:String}{bmN:List aC}
theorem wa(m:x_ Bn newId inN bmN)(H:bmB.contains (.type Bn)=bc)(F:x_ B nid initId bmB){mN:Str->Option aC}{x:Str}{z S pos:Pos}{args:List Expr}{fI:dt}{oI:Obj}{Q:Flow->b_->Prop}
  (W:bm.contains (.type "BaseException")=bc) (G:A.handled=none) (P:(pa S (d_ args env)).any (·.1)=c_) (hi:mN "__init__"=ar (.ref fI)) (I:oI.cls= .type "function")
  (h :eb (e_ prog w) A (gg (.Name x z) env) (fun f U=>f= .ref C/\eb (e_ prog w) A (evalArgs (.ref C) bc (pa S (d_ args env)) [])
   (fun a Z=>a.kw=[]/\a.pos.length<=sizeLine/\Z.heap.get? C=ar (wh nm q C N bs bm hdct sn sub ab col dd k0 k1 k2 k3 k5 newId)/\Z.heap.Ns N mN/\Re Z.heap bmB bm/\Z.heap.get? fI=ar oI/\
    ∀h' e,Qm Z.heap h' e (.ref C) a.pos->eb (e_ prog w) (A.under (.builtin "type.__call__" ⟨.ref C::a.pos,[]⟩)) (call (.ref fI) (.ref e::a.pos)) (fun r s'=>r= .none/\
     ∃t od,s'.heap.get? C=ar (wh nm q C N bs bm hdct sn sub ab col dd k0 k1 k2 k3 k5 newId)/\s'.heap.get? e=ar {cls:=.ref C,dict:=od,data:=.fields #[.ref t,.none,.none,.none,.bool c_,.none]}/\E (.ref e) s') E {Z with heap:=h'}) E U) E s):
  eb (e_ prog w) A (exec (.Raise (ar (.Call (.Name x z) args [] S)) none pos) env) Q E s:=by
 rw[arm_exec_Raise];first
  |refine LP (M7 (iM (C:=C) (nm:=nm) (q:=q) (N:=N) (bs:=bs) (bm:=bm) (hdct:=hdct) (sn:=sn) (sub:=sub) (ab:=ab) (col:=col) (dd:=dd) (k0:=k0) (k1:=k1) (k2:=k2) (k3:=k3) (k5:=k5) (newId:=newId) W G (LP (MJ (PF (MJ h (fun f U X=>?_) fun _ _ x=>x)) (fun v O Y=>LP (M7 (LS Y))) fun _ _ x=>x))))
  |(simp only[evalOpt,Option.map];refine LP (M7 (iM (C:=C) (nm:=nm) (q:=q) (N:=N) (bs:=bs) (bm:=bm) (hdct:=hdct) (sn:=sn) (sub:=sub) (ab:=ab) (col:=col) (dd:=dd) (k0:=k0) (k1:=k1) (k2:=k2) (k3:=k3) (k5:=k5) (newId:=newId) W G (LP (MJ (PF (MJ h (fun f U X=>?_) fun _ _ x=>x)) (fun v O Y=>LP (M7 (LS Y))) fun _ _ x=>x)))))
  |(refine LP (M7 (iM (C:=C) (nm:=nm) (q:=q) (N:=N) (bs:=bs) (bm:=bm) (hdct:=hdct) (sn:=sn) (sub:=sub) (ab:=ab) (col:=col) (dd:=dd) (k0:=k0) (k1:=k1) (k2:=k2) (k3:=k3) (k5:=k5) (newId:=newId) W G ?_));refine LP (MJ (PF (MJ h (fun f U X=>?_) fun _ _ x=>x)) (fun v O Y=>LP (M7 (LS Y))) fun _ _ x=>x))
 obtain⟨rfl,X⟩:=X;unfold callWith;refine LP (ME (MJ X (fun a Z R=>LP (M7 ?_)) fun _ _ x=>x));obtain⟨apos,L⟩:=a;obtain⟨J,hlen,y,l,T,K,R⟩:=R;obtain rfl:L=[]:=J;obtain⟨j,g,d,k,os⟩:=Z;simp only[P];refine LP (wpAny_keeperOf_exc y ?_);refine LP (xZ (hrest:=hlen) m H F T y l hi K I fun h' e hm=>MJ (R h' e hm) (fun r s' u=>⟨u.1,LP (ME (wpAny_point (LS ?_)))⟩) fun _ _ x=>x);obtain⟨_,t,od,n,p,o⟩:=u;exact⟨e,t,od,rfl,n,p,o⟩
end
end
end S7
namespace S7
open PySem PySem.Spec PySem.W PyProof.Rows
section
open Builtin Builtin.ObjectAttr
def wb:List aC->Bool
 | .ref _:: .ref _::r=>r==[.type "ValueError",.type "Exception",.type "BaseException",.type "object"]
 |_=>c_
theorem AN(e:wb l=bc):∃a b,l= .ref a:: .ref b::[.type "ValueError",.type "Exception",.type "BaseException",.type "object"]:=by
 unfold wb at e;split at e
 ·next a b r=>exact⟨a,b,by rw[P7.mp e]⟩
 ·cases e
theorem C0(Z:aC)(e:wb l=bc):refuseLoop Z "__setattr__" l=a_ ():=by
 obtain⟨a,b,rfl⟩:=AN e;rw[refuseLoop_ref,refuseLoop_ref];exact PySem.F.store_ValueError.passes Z
structure ExcS(K:Sd)(C:dt):Prop where
 sa:y2 K (.ref C) "__setattr__"=ar (ar (.builtin "object.__setattr__"))
 ob:RE K C (.type "object")=ar bc
 cd:∃cd,R9 K C=ar cd/\cd.hasDict=bc/\wb cd.mro=bc
section
variable {prog:ee}{w:eM}{A:gd}{E:aC->b_->Prop}{s:b_}{K:Sd}{x C:dt}{o:Obj}{vs:Array aC}{mA:Str->Option aC}{name:Str}{v:aC}{R:RW->b_->Prop}
theorem C1{Q:Fin->b_->Prop}(c:ExcS K C)(X:K.In s.heap)(J:s.heap.get? x=ar o)(p:o.cls= .ref C)(N:o.data= .fields vs)
  (l:(o.dict=none/\∀n,mA n=none)\/∃d,o.dict=ar d/\d≠x/\s.heap.Ns1 d mA)
  (m:∀h' tk' dx,h'.Ns1 dx (fun y=>if y=name then ar v else mA y)->dx≠x->h'.get? x=ar {o with dict:=ar dx}->(o.dict=ar dx\/(o.dict=none/\s.heap.get? dx=none))->
   (∀b o,b≠x->b≠dx->s.heap.get? b=ar o->h'.get? b=ar o)->Q (.done (.ret .none)) {s with heap:=h',toks:=tk'}) (j:Within mA ns:=by within_ways) (a3:ns.length<=sizeLine:=by size_fits):
  eb (e_ prog w) A (storeInOwnDict (.ref x) (.ref C) (.str name tk) name v b) Q E s:=by
 obtain⟨cd,H,I,_⟩:=c.cd;obtain⟨h,g,d,t,os⟩:=s;obtain⟨oc,od,a4,q⟩:=o;dsimp only at J p N l;subst p N;unfold storeInOwnDict;refine LP (LS ?_);show eb _ _ (ownDictForStores (.ref x)>>=_) _ _ _;unfold ownDictForStores instanceDict;refine LP (LP (wpAny_loadPart J (LP ((looks_clsIn X H).here ?_))));rw[I];simp only[p0,ey,if_false];rcases l with⟨hdn,hmA⟩|⟨dx,hdx,hne,hns⟩
 ·have L:od=none:=hdn;subst L;simp only[typeHasDict,p0,Bool.or_self,ey,if_false];have Z:(h.push {cls:=.type "dict",data:=.dict #[]}).get? x=ar ⟨.ref C,none,.fields vs,q⟩:=LQ _ J;have W:x≠h.objs.size:=L7 (LZ J);refine LP (wpAny_alloc' ?_);refine LP (wpAny_update' Z ?_);refine LS ?_;have u:((h.push {cls:=.type "dict",data:=.dict #[]}).update x fun o=>{cls:=o.cls,dict:=ar h.objs.size,data:=o.data,slots:=o.slots}).get? h.objs.size
    =ar {cls:=.type "dict",data:=.dict #[]}:=
   (NI _ _ _ _ W.symm).trans (Heap.get?_push_at rfl rfl)
  have r:((h.push {cls:=.type "dict",data:=.dict #[]}).update x fun o=>{cls:=o.cls,dict:=ar h.objs.size,data:=o.data,slots:=o.slots}).Ns h.objs.size (fun _=>none):=
   ⟨_, #[],_,u,rfl,fun e he=>absurd he (by simp),fun _=>rfl⟩
  show eb _ _ (storeInDict h.objs.size (.str name tk) name v) _ _ _;unfold storeInDict newKeyGuard;refine LP (LS (LP (wpAny_nsSet1 (Heap.Ns1.of_empty r) fun h' Y hs=>?_)));obtain⟨f,z,B,U,T,P⟩:=Y.count (P8 name v Rv);refine LP (wpAny_lookBehind U (by rw[T];exact pastItsLine_dict (Ma P (by rw[Ml,A2,MT];omega))) ?_)
  wp_walk
  refine m h' _ h.objs.size ?_ W.symm ?_ (.inr ⟨rfl,MV (LU _)⟩) (fun b k F S G=>?_)
  ·obtain⟨o',es,ep,e1,e2,e3,a,i⟩:=Y;exact⟨o',es,ep,e1,e2,e3,a,fun y=>by rw[i y];by_cases hy:y=name<;>simp[hy,hmA]⟩
  ·exact(hs.2 x W).trans (MS _ Z rfl)
  ·exact(hs.2 b S).trans ((NI _ _ _ _ F).trans (LQ _ G))
 ·have O:od=ar dx:=hdx;subst O;refine LS ?_;show eb _ _ (storeInDict dx (.str name tk) name v) _ _ _;unfold storeInDict newKeyGuard;refine LP (LS (LP (wpAny_nsSet1 hns fun h' Y hs=>?_)));obtain⟨f,z,B,U,T,P⟩:=Y.count (P8 name v j);refine LP (wpAny_lookBehind U (by rw[T];exact pastItsLine_dict (Ma P (by rw[Ml];omega))) ?_)
  wp_walk
  exact m h' _ dx Y hne ((hs.2 x hne.symm).trans J) (.inl rfl) (fun b k _ S G=>(hs.2 b S).trans G)
theorem oO{Q:Unit->b_->Prop}(c:ExcS K C)(X:K.In s.heap)(P:s.heap.get? x=ar o)(S:o.cls= .ref C)(U:o.data= .fields vs)(u:y2 K (.ref C) name=ar none)
  (J:(o.dict=none/\∀n,mA n=none)\/∃d,o.dict=ar d/\d≠x/\s.heap.Ns1 d mA)
  (G:∀h' Y Z,h'.Ns1 Z (fun y=>if y=name then ar v else mA y)->Z≠x->h'.get? x=ar {o with dict:=ar Z}->(o.dict=ar Z\/(o.dict=none/\s.heap.get? Z=none))->
   (∀b o,b≠x->b≠Z->s.heap.get? b=ar o->h'.get? b=ar o)->Q () {s with heap:=h',toks:=Y}) (B:Within mA ns:=by within_ways) (L:ns.length<=sizeLine:=by size_fits):
  eb (e_ prog w) A (setAttr (.ref x) name v) Q E s:=by
 obtain⟨cd,N,H,O⟩:=c.cd;have T:notCls o=true:=by unfold notCls;rw[U]
 have I:∃od,InstAt s.heap x o C od:=by
  rcases J with⟨hdn,_⟩|⟨Z,hdx,_,⟨od,es,ep,e1,_⟩⟩
  ·exact⟨none,P,S,T,by rw[hdn];trivial⟩
  ·exact⟨ar od,P,S,T,by rw[hdx];exact e1⟩
 obtain⟨od,I⟩:=I;refine set_plain X I c.sa ?_;have W:=PySem.F.store_object;have sub:Looks (e_ prog w) s.heap (QH (.ref x) (.type "object")) true:=I.type.andThen (looks_mroIn X c.ob);refine OW W.slot.plain W.entry (@check_slot (e_ prog w) _ _ {s with toks:=s.toks+1} "object.__setattr__" "object" "__setattr__" (.ref x) [.str name s.toks,v] [] _ W.kind W.split sub (W.args (.ref x) (.str name s.toks) v) ?_);have hm:Looks (e_ prog w) s.heap (mroOf (.ref C)) cd.mro:=(looks_clsIn X N).andThen .now;rw[osa_eq,refuse_eq];refine LP (LP (I.type _ _ _ _ (fun _ _ e=>e) (LP (hm _ _ _ _ (fun _ _ e=>e) ?_))));rw[C0 _ O];refine LS (LP (I.type _ _ _ _ (fun _ _ e=>e) (LP (QT X u _ _ _ _ (fun _ _ e=>e) (LP (LS ?_))))));exact C1 (s:={s with toks:=s.toks+1}) c X P S U J (fun h' Y Z a1 a2 z a4 t=>G h' Y Z a1 a2 z a4 t) B L
end
end
end S7
namespace S7
open PySem PySem.Spec PyProof.Rows L2 S3
def ie(C a t:dt)(od:Option dt):fg->Prop:=fun h=>h.get? a=ar {cls:=.ref C,dict:=od,data:=.fields #[.ref t,.none,.none,.none,.bool c_,.none]}
def iZ(dx:dt)(fs:List (Str×V)):fg->Prop:=fun h=>∃mA,h.Ns1 dx mA/\(∀f,tJ (fs.lookup f) (mA f))/\PySem.Within mA (fs.map (·.1))
theorem AO{Z:fg}(p:ie C a t od h1)(k:∀o,h1.get? a=ar o->Z.get? a=ar o):ie C a t od Z:=k _ p
theorem AQ{Z:fg}(p:iZ dx fs h1)(k:∀o,h1.get? dx=ar o->Z.get? dx=ar o):iZ dx fs Z:=by
 obtain⟨mA,⟨o,es,ep,e,r⟩,q⟩:=p;exact⟨mA,⟨o,es,ep,k _ e,r⟩,q⟩
theorem C3(p:ie C a t od h):bo P w H h a (.ext (ie C a t od)):=⟨p,⟨_,p⟩,fun _ _ q k=>AO q k⟩
theorem FW(p:iZ dx fs h):bo P w H h dx (.ext (iZ dx fs)):=⟨p,(let ⟨_,⟨o,_,_,e,_⟩,_⟩:=p;⟨o,e⟩),fun _ _ q k=>AQ q k⟩
section
variable {X:Cx}{pins:List (dt×Obj)}{σ:L2.St}{H:Hp}{s:b_}{h':fg}{t':Nat}
theorem Inv.laidG(I:L2.Inv X pins σ H s)(k:∀b u,s.heap.get? b=ar u->h'.get? b=ar u)(W:s.heap.get? a=none)(Y:bo X.prog X.w (upd H a o) h' a o):L2.Inv X pins σ (upd H a o) {s with heap:=h',toks:=t'}:=by
 have Z:H a=none:=gR.gone I.hok W;have ne:∀b u,s.heap.get? b=ar u->b≠a:=fun b u q=>ir q W;refine I.un (t':=t') ⟨fun b u q _ _ _=>k b u q,fun b u q _ _ _=>⟨u.slots,k b u q⟩,fun b u q n _=>by rw[aI (ne b u q)];exact n,fun b u q _=>⟨u,k b u q⟩,fun b xs q=>by rw[aI (aR q Z)];exact q,fun b u xs q=>by rw[aI (aR q Z)];exact q,fun b U q=>⟨#[],by rw[aI (aR q Z),q];simp⟩⟩ fun b u e=>?_
 by_cases hb:b=a
 ·subst hb;rw[aV]at e;cases e;exact Y
 ·rw[aI hb]at e;exact(I.hok b u e).stay (fun c v _ q=>k c v q) (fun c q=>by rw[aI (aR q Z)];exact q) fun c xs q=>by rw[aI (aR q Z)];exact q
theorem Inv.write2(I:L2.Inv X pins σ H s)(R:H a=ar (.ext φ))(Z:(∃ ψ,H b=ar (.ext ψ))\/s.heap.get? b=none)(k:∀c v,c≠a->c≠b->s.heap.get? c=ar v->h'.get? c=ar v)(S:∃v,h'.get? a=ar v)(T:∃v,h'.get? b=ar v)
  (Q:b≠a) (P:∀H',bo X.prog X.w H' h' a o) (nb:∀H',bo X.prog X.w H' h' b u):L2.Inv X pins σ (upd (upd H b u) a o) {s with heap:=h',toks:=t'}:=by
 have U:∀c v,H c=ar v->(∀ ψ,v≠ .ext ψ)->c≠a/\c≠b:=fun c v e n=>by
  refine⟨fun z=>?_,fun z=>?_⟩
  ·subst z;rw[R]at e;cases e;exact n _ rfl
  ·subst z;rcases Z with⟨ψ,Z⟩|Z
   ·rw[Z]at e;cases e;exact n _ rfl
   ·rw[gR.gone I.hok Z]at e;cases e
 have free:∀c v,s.heap.get? c=ar v->H c=none->c≠a/\c≠b:=fun c v q n=>by
  refine⟨fun z=>?_,fun z=>?_⟩
  ·subst z;rw[R]at n;cases n
  ·subst z;rcases Z with⟨ψ,Z⟩|Z
   ·rw[Z]at n;cases n
   ·rw[Z]at q;cases q
 have up:∀c v,H c=ar v->(∀ ψ,v≠ .ext ψ)->upd (upd H b u) a o c=ar v:=fun c v e n=>by
  obtain⟨W,Y⟩:=U c v e n;rw[aI W,aI Y];exact e
 refine I.un (t':=t') ⟨fun c v q n _ _=>k c v (free c v q n).1 (free c v q n).2 q,fun c v q n _ _=>⟨v.slots,k c v (free c v q n).1 (free c v q n).2 q⟩,fun c v q n _=>by rw[aI (free c v q n).1,aI (free c v q n).2];exact n,fun c v q _=>?_,fun c xs q=>up c _ q (by intro _ z;cases z),fun c w xs q=>up c _ q (by intro _ z;cases z),fun c O q=>⟨#[],by rw[up c _ q (by intro _ z;cases z)];simp⟩⟩ fun c v e=>?_
 ·by_cases W:c=a
  ·subst W;exact S
  ·by_cases Y:c=b
   ·subst Y;exact T
   ·exact⟨v,k c v W Y q⟩
 ·by_cases W:c=a
  ·subst W;rw[aV]at e;cases e;exact P _
  ·rw[aI W]at e;by_cases Y:c=b
   ·subst Y;rw[aV]at e;cases e;exact nb _
   ·rw[aI Y]at e;have own:∀d,H d=ar (.own c)->d≠a/\d≠b:=fun d q=>U d _ q (by intro _ z;cases z)
    refine(I.hok c v e).stay (fun d w hd q=>?_) (fun d q=>up d _ q (by intro _ z;cases z)) fun d xs q=>up d _ q (by intro _ z;cases z)
    rcases hd with rfl|hd
    ·exact k _ w W Y q
    ·exact k d w (own d hd).1 (own d hd).2 q
end
section
variable {X:Cx}{o value:Expr}{ta tv:TE}{f:Str}{pos pos':Pos}
def JF(K:dV)(ta tv:TE)(f:Str):TS:=fun D σ H=>tv σ H fun y H1=>ta σ H1 fun x H2=>∃p C t,x= .ref p/\ExcS K C/\D' K (.ref C) f=ar none/\
  ((H2 p=ar (.ext (ie C p t none))/\∀dx,H2 dx=none->dx≠p->D.nx σ (upd (upd H2 dx (.ext (iZ dx [(f,y)]))) p (.ext (ie C p t (ar dx)))))\/
   (∃dx fs,H2 p=ar (.ext (ie C p t (ar dx)))/\H2 dx=ar (.ext (iZ dx fs))/\dx≠p/\fs.lookup f=none/\fs.length<=100/\D.nx σ (upd (upd H2 dx (.ext (iZ dx (fs++[(f,y)])))) p (.ext (ie C p t (ar dx))))))
theorem oQ{α:Type}{g f:Str}{y:α}:∀{fs:List (Str×α)},fs.lookup f=none->(fs++[(f,y)]).lookup g=if g=f then ar y else fs.lookup g
 |[],_=>by
  show(match g==f with|true=>ar y|false=>none)=_
  by_cases h:g=f
  ·subst h;simp
  ·rw[if_neg h,Ox h];rfl
 | (a,b)::r,h=>by
  rw[MC]at h;by_cases hf:f=a
  ·subst hf;simp at h
  ·rw[Ox hf]at h;rw[List.cons_append,MC,MC,oQ (fs:=r) h];by_cases hg:g=a
   ·subst hg;have Z:¬ g=f:=fun z=>hf z.symm;simp[Z]
   ·rw[Ox hg]
theorem zm(r:PE X o ta)(m:PE X value tv)(hs:ly value (ar (.Attribute o f pos')) pos.line X.env=a_ c_):PS X (.Assign [.Attribute o f pos'] value pos) (JF X.K ta tv f):=by
 intro pins s σ H D I h;refine plainObj_wpAny_Assign_Attribute (eR (m pins s σ H _ I h) fun u s1 ⟨y,H1,I1,ry,q⟩=>eR (r pins s1 σ H1 _ I1 q) fun n s2 ⟨x,H2,I2,rx,p,C,t,ex,c,hf,q2⟩=>?_) hs;subst ex;obtain rfl:n=er p:=rx;rcases q2 with⟨hp,q⟩|⟨Z,fs,hp,hd,W,hl,hlen,q⟩
 ·have J:s2.heap.get? p=ar {cls:=.ref C,dict:=none,data:=.fields #[.ref t,.none,.none,.none,.bool c_,.none]}:=(I2.hok p _ hp).1;refine oO (mA:=fun _=>none) (ns:=[]) c I2.kIn J rfl rfl hf (.inl ⟨rfl,fun _=>rfl⟩) (fun h' S Z T W Y U G=>?_) Rv (by simp)
  rcases U with U|⟨_,hnew⟩
  ·cases U
  have B:ie C p t (ar Z) h':=Y;have R:iZ Z [(f,y)] h':=⟨_,T,fun g=>by
   show tJ (match g==f with|true=>ar y|false=>none) _
   by_cases hg:g=f
   ·subst hg;simp;exact ry
   ·rw[Ox hg,if_neg hg];exact trivial,P8 f u Rv⟩
  obtain⟨L,⟨od,es,ep,e1,_⟩,_⟩:=id R;have E:=Inv.write2 (t':=S) (a:=p) (b:=Z) (o:=.ext (ie C p t (ar Z))) (u:=.ext (iZ Z [(f,y)])) I2 hp (.inr hnew) (fun c v F O q=>G c v F O q) ⟨_,Y⟩ ⟨_,e1⟩ W (fun _=>C3 B) (fun _=>FW R);exact⟨σ,_,E,q Z (gR.gone I2.hok hnew) W⟩
 ·have J:s2.heap.get? p=ar {cls:=.ref C,dict:=ar Z,data:=.fields #[.ref t,.none,.none,.none,.bool c_,.none]}:=(I2.hok p _ hp).1;obtain⟨mA,P,Q,hw⟩:=(I2.hok Z _ hd).1;refine oO (mA:=mA) (ns:=fs.map (·.1)) c I2.kIn J rfl rfl hf (.inr ⟨Z,rfl,W,P⟩) (fun h' S N T w Y U G=>?_) hw (by rw[LR,MT];omega)
  have A:Z=N:=by
   rcases U with U|⟨U,_⟩
   ·exact Mn U
   ·cases U
  subst A;have B:ie C p t (ar Z) h':=Y;have R:iZ Z (fs++[(f,y)]) h':=⟨_,T,fun g=>by
   rw[oQ hl];by_cases hg:g=f
   ·subst hg;simp;exact ry
   ·rw[if_neg hg,if_neg hg];exact Q g,by
   have:=P8 f u hw;intro z l;have:=this z l;simp only[List.map_append,H_,QI,N_,f_,fb,or_false]at this⊢;exact this.symm⟩
  obtain⟨L,⟨od,es,ep,e1,_⟩,_⟩:=id R;have E:=Inv.write2 (t':=S) (a:=p) (b:=Z) (o:=.ext (ie C p t (ar Z))) (u:=.ext (iZ Z (fs++[(f,y)]))) I2 hp (.inl ⟨_,hd⟩) (fun c v F O q=>G c v F O q) ⟨_,Y⟩ ⟨_,e1⟩ W (fun _=>C3 B) (fun _=>FW R);exact⟨σ,_,E,q⟩
end
end S7
section
namespace S7
open PySem PySem.Spec PyProof.Rows L2 S3
theorem EV{K:dV}{Z:Str->Option aC}(X:K.In h)(G:h.Ns N Z)(e:pb K N n=ar (ar v)):Z n=ar v:=by
 obtain⟨o,es,ep,Y,hd,_,hf⟩:=G;unfold pb at e;split at e
 ·rename_i c d es' n' sl q
  have:=X _ _ q;rw[Y]at this;cases this;cases hd;split at e
  ·rename_i en he
   cases e;rw[<-hf];unfold nsFind findBy;rw[<-Pc,he];rfl
  ·split at e<;>cases e
 ·cases e
def lj(K:dV)(C f:dt):Bool:=match K.lookup C with
 |some ⟨.type "type",_,.cls cd,sl⟩=>(match cd.mro,sl.toList with
  | .ref C'::bm,[_,_,_,_,ar (.builtin n),_]=>C'==C && n=="ValueError.__new__" && !cd.hasDel && W.tailIn K Iy bm && W.nsOkIn K cd.ns && pb K cd.ns "__init__"==ar (ar (.ref f)) && cd.hasDict && wb cd.mro
  |_,_=>c_) && (D' K (.ref C) "__setattr__"==ar (ar (.builtin "object.__setattr__"))) && (match K.lookup f with|some o=>o.cls== .type "function"|none=>c_)
 |_=>c_
theorem sW{K:dV}(X:K.In h)(c:ExcC K C)(q:lj K C f=bc):ExcS K C/\(∃o,K.lookup f=ar o/\o.cls= .type "function")/\∃bm N nm qn bs hdct sn sub ab col dd k0 k1 k2 k3 k5 mN,
  h.get? C=ar (wh nm qn C N bs bm hdct sn sub ab col dd k0 k1 k2 k3 k5 "ValueError.__new__")/\h.Ns N mN/\mN "__init__"=ar (.ref f)/\Re h Iy bm:=by
 unfold lj at q;split at q
 case h_2=>cases q
 case h_1 dd cd O ho=>
 simp only[h_,beq_iff_eq]at q;obtain⟨⟨q,Q⟩,Y⟩:=q;split at q
 case h_2=>cases q
 case h_1 C' bm k0 k1 k2 k3 n k5 hm hs=>
 simp only[h_,beq_iff_eq,G']at q;obtain⟨⟨⟨⟨⟨⟨⟨L,en⟩,Z⟩,J⟩,U⟩,hi⟩,T⟩,R⟩:=q;subst L en;have S:QU K C'=ar cd:=by unfold QU;rw[ho]
 refine⟨⟨Q,c.ob,cd,S,T,R⟩,?_,?_⟩
 ·split at Y
  ·next o hf=>exact⟨o,hf,P7.mp Y⟩
  ·cases Y
 rcases cd with⟨nm,bs,mro,ns,qn,hd,sn,sub,ab,col,del⟩;dsimp only at hm Z U hi;subst hm Z;obtain rfl:O= #[k0,k1,k2,k3,ar (.builtin "ValueError.__new__"),k5]:=by rcases O with⟨l⟩;simp only at hs;rw[hs]
 have P:h.Ns ns (h.nsMap ns):=.of_isNs (W.isNs_of_in X U);exact⟨bm,ns,nm,qn,bs,hd,sn,sub,ab,col,dd,k0,k1,k2,k3,k5,_,X _ _ ho,P,EV X P hi,W.tail_of_in X J⟩
def Ke(C:dt):Sp:=fun vs H Q _=>∃e t v1 v2,vs=[.ref e,v1,v2]/\H e=ar (.ext (ie C e t none))/\∀dx,H dx=none->dx≠e->Q .non (upd (upd H dx (.ext (iZ dx [("many",v1),("most",v2)]))) e (.ext (ie C e t (ar dx))))
theorem wc(h:a≠b):upd (upd H a o) b u=upd (upd H b u) a o:=by
 funext c;unfold upd;by_cases h1:c=b
 ·by_cases h2:c=a
  ·exact absurd (h2.symm.trans h1) h
  ·rw[if_pos h1,if_neg h2,if_pos h1]
 ·rw[if_neg h1];by_cases h2:c=a
  ·rw[if_pos h2,if_pos h2]
  ·rw[if_neg h2,if_neg h2,if_neg h1]
theorem EX{P:ee}{w:eM}{K:dV}{S:Str->Option aC}{base:fg}{C f:dt}{J:fc}{X:p4}{B z n m v y r I:Pos}(F:Fun K "__init__" "TooGreat.__init__" X f J)(L:ExcS K C)(c:ExcC K C)
  (p:FnScope ["self","many","most"] ["self","many","most"] (au X)) (R:∀x∈(["self","many","most"]:List Str),(au X).names.lookup x=ar .local)
  (G:dC X=[.Assign [.Attribute (.Name "self" B) "many" z] (.Name "many" n) m,.Assign [.Attribute (.Name "self" v) "most" y] (.Name "most" r) I]):
  FnOk P w K S base (lg P w) 1 f J ["self","many","most"] (Ke C):=by
 obtain⟨l,od,kV,doc,pm,an,U,ct,u,rfl,o,O⟩:=F.ex;refine Bw o O p (fun vs H Q E ⟨_,_,_,_,h,_⟩=>by rw[h];rfl) fun A outer s H vs Q E k h=>?_
 rw[G];have v0:zY (jH (lg P w) P w K S base ["self","many","most"] "TooGreat.__init__" (au X) f U A outer s H E).env.scope "self":=.inl (R "self" (by simp))
 have v1:zY (jH (lg P w) P w K S base ["self","many","most"] "TooGreat.__init__" (au X) f U A outer s H E).env.scope "many":=.inl (R "many" (by simp))
 have v2:zY (jH (lg P w) P w K S base ["self","many","most"] "TooGreat.__init__" (au X) f U A outer s H E).env.scope "most":=.inl (R "most" (by simp))
 refine⟨_,vv (zm (pv 0 rfl v0) (pv 1 rfl v1) rfl) (tO (zm (pv 0 rfl v0) (pv 2 rfl v2) rfl)),?_⟩;obtain⟨e,t,T,N,rfl,he,q⟩:=h;refine⟨T,rfl,.ref e,rfl,e,C,t,rfl,L,c.mf,.inl ⟨he,fun Z hd Y=>?_⟩⟩;refine⟨N,rfl,.ref e,rfl,e,C,t,rfl,L,c.ms,.inr ⟨Z,[("many",T)],aV,by rw[aI Y];exact aV,Y,rfl,by simp,?_⟩⟩
 have:=q Z hd Y;have e2:upd (upd (upd (upd H Z (.ext (iZ Z [("many",T)]))) e (.ext (ie C e t (ar Z)))) Z (.ext (iZ Z [("many",T),("most",N)]))) e (.ext (ie C e t (ar Z)))=upd (upd H Z (.ext (iZ Z [("many",T),("most",N)]))) e (.ext (ie C e t (ar Z))):=by
  rw[wc Y.symm,tK,tK]
 show Q .non _;rw[<-e2]at this;exact this
end S7
namespace S7
open PySem PySem.Spec PyProof.Rows L2 S3
section
variable {X:Cx}{Ek:XK}
theorem Inv.forget{H:Hp}(I:L2.Inv X pins σ (upd (upd H dx (.ext (iZ dx fs))) e (.ext φ)) s)(P:H dx=none)(R:H e=none)(T:dx≠e):
  L2.Inv X pins σ (upd H dx (.xd fs)) s:=by
 have Y:∀b u,upd (upd H dx (.ext (iZ dx fs))) e (.ext φ) b=ar u->(∀ χ,u≠ .ext χ)->upd H dx (.xd fs) b=ar u:=fun b u q n=>by
  by_cases W:b=e
  ·subst W;rw[aV]at q;cases q;exact absurd rfl (n _)
  ·rw[aI W]at q;by_cases Z:b=dx
   ·subst Z;rw[aV]at q;cases q;exact absurd rfl (n _)
   ·rw[aI Z]at q⊢;exact q
 have U:∀b,upd (upd H dx (.ext (iZ dx fs))) e (.ext φ) b=none->upd H dx (.xd fs) b=none:=fun b q=>by
  by_cases W:b=e
  ·subst W;rw[aV]at q;cases q
  ·rw[aI W]at q;by_cases Z:b=dx
   ·subst Z;rw[aV]at q;cases q
   ·rw[aI Z]at q⊢;exact q
 refine I.un (t':=s.toks) ⟨fun b o q _ _ _=>q,fun b o q _ _ _=>⟨o.slots,q⟩,fun b o _ n _=>U b n,fun b o q _=>⟨o,q⟩,fun b xs q=>Y b _ q (by intro _ z;cases z),fun b o u q=>Y b _ q (by intro _ z;cases z),fun b Q q=>⟨#[],by rw[Y b _ q (by intro _ z;cases z)];simp⟩⟩ fun b u q=>?_
 by_cases Z:b=dx
 ·subst Z;rw[aV]at q;cases q;have S:=I.hok b (.ext (iZ b fs)) (by rw[aI T];exact aV)
  obtain⟨mA,W,Z,_⟩:=S.1;exact⟨mA,W,Z⟩
 ·rw[aI Z]at q;have W:b≠e:=fun z=>by rw[z,R]at q;cases q
  exact(I.hok b u (by rw[aI W,aI Z];exact q)).stay (fun _ _ _ z=>z) (fun c z=>Y c _ z (by intro _ z;cases z)) fun c xs z=>Y c _ z (by intro _ z;cases z)
def C4:List D->M Out
 |[a,b]=>M.raise (.exc "TooGreat" [a,b])
 |_=>M.fail
abbrev uH(ms:aQ->M (List D)):cJ:=fun ρ=>do let ds<-ms ρ;C4 ds
theorem AR(L:Leaves X Ek)(hc:X.calm=bc)(eK:gF X.K=bc)(b0:pb X.K f' "TooGreat"=ar (ar (.ref C)))(b1:lj X.K C f=bc)
  (F:FnOk X.prog X.w X.K X.mg X.base (lg X.prog X.w) k f fd ["self","many","most"] (Ke C)) (hb:Binds X.K fd ["self","many","most"] []) (hr:Room (k+1) X.A)
  (ha:SA X (vT X.K Ek) (e::es) ms) (hg:Gl X "TooGreat":=by rfl)
  (he:d_ (e::es) X.env=(c_,gg e X.env)::d_ es X.env:=by rfl) (a5:(pa cpos (d_ es X.env)).any (·.1)=false:=by rfl):
  SS X (vT X.K Ek) (.Raise (ar (.Call (.Name "TooGreat" np) (e::es) [] cpos)) none pos) (uH ms):=by
 intro pins s σ H T I h;obtain⟨ι,S,ρ,rep,re,c⟩:=h;obtain⟨R,i⟩:=jj eK (show("TooGreat":Str)∈a9 by decide)
 have eC:R=C:=by
  have:=i.ns.symm.trans b0;cases this;rfl
 subst eC;obtain⟨cS,⟨oI,a3,a4⟩,bm,N,nm,qn,bs,hdct,sn,sub,ab,col,dd,k0,k1,k2,k3,k5,mN,hC,hN,hi,tl⟩:=sW I.mod.kin i.ck b1;have hm:X.mg "TooGreat"=ar (.ref R):=Mb I.mod.kin I.mod.glob i.ns;refine wa (k5:=k5) (k3:=k3) (k2:=k2) (k1:=k1) (k0:=k0) (nm:=nm) (q:=qn) (C:=R) (N:=N) (bm:=bm) (bs:=bs) (hdct:=hdct) (sn:=sn) (sub:=sub) (ab:=ab) (col:=col) (dd:=dd) (fI:=f) (oI:=oI) Nt (by decide) Nt (mN:=mN) (tl.hasType PySem.F.excBase_ValueError.hasBase) (I.ok.hd hc) (by rw[he];show(c_||(pa cpos (d_ es X.env)).any (·.1))=c_;rw[a5];rfl) hi a4 (kR I hg hm ⟨rfl,?_⟩ (by decide))
 have O:=ha cpos pins s σ H _ I ⟨ι,S,ρ,rep,re,az (aq c) fun ds U S1 Q e1 rep1 E vs y=>(⟨U,S1,ds,rep1,y,E⟩:∃U S1 ds,Rep X.K U Q S1/\RelDs X.K U Q ds vs/\cont X.K (vT X.K Ek) (C4 ds) U S1 Q _)⟩;rw[he]at O⊢;refine OU (MJ O (fun us s2 a0=>?_) fun _ _ z=>z);obtain⟨vs,Q,p,rv,U,S1,ds,rep1,y,E⟩:=a0
 match ds,y,E with
 |[],y,E=>exact(ah E).elim
 |[_],y,E=>exact(ah E).elim
 |_::_::_::_,y,E=>exact(ah E).elim
 | [da,db],y,E=>
  obtain⟨n,ws,rfl,ra,r2⟩:=y.cons_inv;obtain⟨o,c7,rfl,rb,r3⟩:=r2.cons_inv;cases r3.nil_inv;have hlen:us.length=2:=rv.length.symm;refine⟨rfl,?_,p.bk _ _ hC,hN.keeps p.bk,tl.keeps p.bk,p.bk _ _ (I.mod.kin _ _ a3),fun h' Z hm=>?_⟩
  ·show us.length<=sizeLine;rw[hlen,MT];decide
  ·obtain⟨t,h1,h2,h3⟩:=hm.there;have l:Q Z=none:=gR.gone p.hok hm.new;have g:L2.Inv X pins σ (upd Q Z (.ext (ie R Z t none))) {s2 with heap:=h'}:=Inv.laidG (t':=s2.toks) p hm.keeps hm.new (C3 h1);have a:Ke R [.ref Z,n,o] (upd Q Z (.ext (ie R Z t none))) (fun v H'=>v= .non/\∃Y,upd Q Z (.ext (ie R Z t none)) Y=none/\Y≠Z/\H'=upd (upd (upd Q Z (.ext (ie R Z t none))) Y (.ext (iZ Y [("many",n),("most",o)]))) Z (.ext (ie R Z t (ar Y)))) Ek:=
    ⟨Z,t,n,o,rfl,aV,fun Y hd P=>⟨rfl,Y,hd,P,rfl⟩⟩
   have b:bh [V.ref Z,n,o] (er Z::us):=.cons rfl rv;refine OG (NC (F.run _ X.stack _ _ ⟨er Z::us,[]⟩ (er Z::us) _ _ Ek (hr.make R us []) (g.env0.make R us []) ?_ b a) fun r s' J=>?_)
   ·have:=hb {s2 with heap:=h'} (er Z::us) g.kIn (by simp[hlen])
    rw[MI]at this;exact this
   ·cases r with
    |error x=>exact L.pass pins σ _ _ x s' g J
    | ok fl=>
     cases fl with
     |next=>exact g_ J
     |brk=>exact g_ J
     |cont=>exact g_ J
     | ret u=>
      obtain⟨v,H',d,a6,ev,Y,j,P,rfl⟩:=g.after J;subst ev;have G:Q Y=none:=by rw[aI P]at j;exact j
      have e2:upd (upd (upd Q Z (.ext (ie R Z t none))) Y (.ext (iZ Y [("many",n),("most",o)]))) Z (.ext (ie R Z t (ar Y)))=upd (upd Q Y (.ext (iZ Y [("many",n),("most",o)]))) Z (.ext (ie R Z t (ar Y))):=by
       rw[wc P.symm,tK]
      rw[e2]at d;have B:s'.heap.get? Z=ar {cls:=.ref R,dict:=ar Y,data:=.fields #[.ref t,.none,.none,.none,.bool c_,.none]}:=(d.hok Z _ aV).1;have I4:=Inv.forget d G l P;refine⟨a6,t,ar Y,d.bk _ _ hC,B,?_⟩;obtain⟨r',S',e',q'⟩:=E;cases e';have m:=p.base;rw[L.ex]at m;refine L.new I4 B rfl rfl rfl rfl (by rw[aI (kr P)];exact l) (Un.gone m (by simp) hm.new) ?_
      have hE:Ext U Q U (upd Q Y (.xd [("many",n),("most",o)])):=fi G;exact q' U _ hE (gf rep1 G) _ _ ⟨"TooGreat",[da,db],R,rfl,i.ns,rfl,.inr ⟨Y,_,rfl,aV,rfl,.cons (ra.later rep1 hE) (.cons (rb.later rep1 hE) .nil)⟩⟩
end
end S7
end
namespace S7
open PySem PySem.Spec PyProof.Rows L2 S3
theorem C5{h:fg}{mA:Str->Option aC}(n:h.Ns1 dx mA)(e:h.get? dx=ar od)(Y:mA f=ar v):QK f od=ar (ar v):=by
 obtain⟨o,es,ep,e1,hd,_,_,hf⟩:=n;rw[e]at e1;cases e1;unfold QK;rw[hd];have:=hf f;rw[Y]at this;unfold nsFind findBy at this;rw[<-Pc]at this;cases q:es.toList.find? (·.key.isStr f)with
 |none=>rw[q]at this;cases this
 |some en=>
  rw[q]at this;have Z:en.val=v:=Mn this;rw[<-Z];dsimp only;rw[q]
section
variable {X:Cx}{E:XD}{pins:List (dt×Obj)}{σ:L2.St}{H:Hp}{s:b_}
theorem we{a C Y:dt}{fs:List (Str×V)}{f:Str}{v:V}{b:Bool}{Q:aC->b_->Prop}{A:gd}{E:aC->b_->Prop}(c:ExcC X.K C)(U:∀cd,QU X.K C=ar cd->cd.hasDict=bc)(S:D' X.K (.ref C) f=ar none)(I:L2.Inv X pins σ H s)(N:H a=ar (.ext (mI C a (ar Y))))(z:H Y=ar (.xd fs))(O:fs.lookup f=ar v)
  (L:W.copiedNames.contains f=c_) (h:∀u s',L2.Inv X pins σ H s'->RelV v u->Q u s'):eb (e_ X.prog X.w) A (R4 (.ref a) f b) Q E s:=by
 obtain⟨⟨G,vs,he,F,B,T⟩,_⟩:=I.hok a _ N;obtain⟨mA,P,y⟩:=(show ∃mA,s.heap.Ns1 Y mA/\∀f,tJ (fs.lookup f) (mA f)from I.hok Y _ z);obtain⟨od,es,ep,e1,_⟩:=id P;obtain⟨u,x,R⟩:=tJ.some_of (v:=v) (o:=mA f) (by rw[<-O];exact y f)
 have J:y' s.heap a G C (ar od):=⟨he,F,by unfold RU;rw[T],by rw[B];exact e1⟩
 obtain⟨cd,Z⟩:=MO.mp c.cd;have hf:W.findObj X.K C (ar od) f=ar (.value u):=by
  unfold W.findObj;rw[Z,NP,S,NP];simp only[J'];unfold W.ownOf;rw[U cd Z,if_pos rfl];dsimp only;rw[C5 P e1 x];rfl
 unfold R4;refine LP (wpAny_mkText ?_);refine Cv (s:={s with toks:=s.toks+1}) I.kIn J c.ga c.gt c.be ?_;refine rW (s:={s with toks:=s.toks+1}) I.kIn J hf ?_;exact W.handed_on (Ab R) (h u _ (I.tok _) R)
def zo(second:Bool):D->M D
 | .exc n [a,b]=>if n∈a9 then a_ (if second then b else a)else M.fail
 |_=>M.fail
abbrev kG(second:Bool)(m:TM):TM:=fun ρ=>do let x<-m ρ;zo second x
theorem zq{e:Expr}{m:TM}{pos:Pos}{Z:Bool}{f:Str}(x:gF X.K=bc)(R:∀n∈a9,∀C,pb X.K f' n=ar (ar (.ref C))->∀cd,QU X.K C=ar cd->cd.hasDict=bc)(L:SE X E e m)(P:f=if Z then "most" else "many")(J:n3 e f X.env (gg e X.env)=gg e X.env:=by rfl):
  SE X E (.Attribute e f pos) (kG Z m):=by
 intro pins s σ H Q I h;refine D9 J (eR (L pins s σ H (fun v Y=>∃ ι d,RelD X.K ι Y d v/\∃n a b va vb C dx p,d= .exc n [a,b]/\n∈a9/\v= .ref p/\pb X.K f' n=ar (ar (.ref C))/\Y p=ar (.ext (mI C p (ar dx)))/\Y dx=ar (.xd [("many",va),("most",vb)])/\Q (if Z then vb else va) Y) I ?_) fun u s1 ⟨v,Y,I1,rv,ι,d,rd,n,a,b,va,vb,C,dx,p,hd,hn,hp,hns,g1,g2,q⟩=>?_)
 ·obtain⟨ι,S,ρ,rep,re,c⟩:=h;refine⟨ι,S,ρ,rep,re,az (aq c) fun d O S1 Y e1 rep1 U v r=>⟨O,d,r,?_⟩⟩;unfold zo at U;split at U
  ·next n a b=>
   split at U
   ·next hn=>
    cases r with
    | excF hns h1 h2 h3 h4=>
     rename_i p C dx fs
     match fs,h3,h4,h2 with
     |[(f1,va),(f2,vb)],h3,h4,h2=>
      have e1:f1="many":=(NJ h3).1;have e2:f2="most":=(NJ (NJ h3).2).1;subst e1 e2;obtain⟨_,_,e3,N,A⟩:=h4.cons_inv;obtain⟨F,y⟩:=NJ e3;subst F y;obtain⟨_,_,w,t,_⟩:=A.cons_inv;obtain⟨B,_⟩:=NJ w;subst B;refine⟨n,a,b,va,vb,C,dx,p,rfl,hn,rfl,hns,h1,h2,?_⟩;have:=aj U .refl rep1;cases Z with
      |true=>exact this _ t
      |false=>exact this _ N
     |[],h3,_,_=>cases h3
     |[_],h3,_,_=>have:=N4 G2 h3;simp at this
     |_::_::_::_,h3,_,_=>have:=N4 G2 h3;simp at this
   ·exact(ah U).elim
  ·exact(ah U).elim
 ·subst hp;obtain rfl:u=er p:=rv;obtain⟨l,T⟩:=jj x hn;have:=T.ns.symm.trans hns;cases this;refine we (f:=f) (v:=if Z then vb else va) T.ck (R n hn C hns) (by rw[P];cases Z<;>first|exact T.ck.mf|exact T.ck.ms) I1 g1 g2 (by rw[P];cases Z<;>rfl) (by rw[P];cases Z<;>decide) fun o s' z G=>⟨_,Y,z,G,q⟩
end
section
variable {X:Cx}{E:XD}{st:p4}{m:TM}{i:Nat}
end
def JG:p4->p4
 | .ClassDef _ _ _ (b::_) .. =>b
 |s=>s
structure GrX(P:ee)(w:eM)(K:dV)(mg:Str->Option aC)(base:fg):Prop where
 ex:∃C f fd,pb K f' "TooGreat"=ar (ar (.ref C))/\lj K C f=bc/\FnOk P w K mg base (lg P w) 1 f fd ["self","many","most"] (Ke C)/\Binds K fd ["self","many","most"] []
theorem C6{P:ee}{w:eM}{K:dV}{H:Str->Option aC}{base h:fg}{C f:dt}{S:fc}{U:p4}{B A J E y z O N:Pos}(F:Fun K "__init__" "TooGreat.__init__" U f S)(X:K.In h)(I:gF K=bc)(Z:pb K f' "TooGreat"=ar (ar (.ref C)))(Y:lj K C f=bc)
  (L:FnScope ["self","many","most"] ["self","many","most"] (au U)) (Q:∀x∈(["self","many","most"]:List Str),(au U).names.lookup x=ar .local) (T:Binds K S ["self","many","most"] [])
  (G:dC U=[.Assign [.Attribute (.Name "self" B) "many" A] (.Name "many" J) E,.Assign [.Attribute (.Name "self" y) "most" z] (.Name "most" O) N]):GrX P w K H base:=by
 obtain⟨v,R⟩:=jj I (show("TooGreat":Str)∈a9 by decide)
 have:=R.ns.symm.trans Z;cases this;exact⟨C,f,S,Z,Y,EX F (sW X R.ck Y).1 R.ck L Q G,T⟩
section
variable {X:Cx}{Ek:XK}
theorem C7(L:Leaves X Ek)(U:X.calm=bc)(O:gF X.K=bc)(W:GrX X.prog X.w X.K X.mg X.base)(R:Room 2 X.A)
  (T:SA X (vT X.K Ek) (e::es) ms) (P:Gl X "TooGreat":=by rfl)
  (Q:d_ (e::es) X.env=(c_,gg e X.env)::d_ es X.env:=by rfl) (Z:(pa cpos (d_ es X.env)).any (·.1)=false:=by rfl):
  SS X (vT X.K Ek) (.Raise (ar (.Call (.Name "TooGreat" np) (e::es) [] cpos)) none pos) (uH ms):=by
 obtain⟨C,f,fd,S,Y,J,N⟩:=W.ex;exact AR L U O S Y J N R T P Q Z
end
theorem DefX.none{P:ee}{w:eM}{K:dV}{X:Str->Option aC}{base:fg}{k:Nat}{x qual:Str}{T:p4}{f:dt}{Z:fc}{Y:List Str}(F:Fun K x qual T f Z)(S:X x=ar (.ref f))(U:Binds K Z Y []):DefX P w K X base k x Y (fun _=>M.fail):=
 ⟨f,Z,⟨fun vs H Q E ⟨_,_,_,_,_,h⟩=>(ah h).elim,fun A outer s H args us vs Q E _ _ _ _ ⟨_,_,_,_,_,h⟩=>(ah h).elim⟩,S,F.kp,U⟩
def EY(K:dV):Bool:=a9.all fun n=>match pb K f' n with
 |some (ar (.ref C))=>(match QU K C with|some cd=>cd.hasDict|none=>bc)
 |_=>bc
theorem FX{K:dV}(h:EY K=bc):∀n∈a9,∀C,pb K f' n=ar (ar (.ref C))->∀cd,QU K C=ar cd->cd.hasDict=true:=by
 intro n X C Y cd Z;have:=Mf.mp h n X;rw[Y]at this;dsimp only at this;rw[Z]at this;exact this
section
variable {X:Cx}{E:XD}
theorem EZ(Z:gF X.K=bc)(Y:EY X.K=bc)(W:SE X E e m)(U:n3 e "many" X.env (gg e X.env)=gg e X.env:=by rfl):SE X E (.Attribute e "many" pos) (kG c_ m):=zq Z (FX Y) W rfl U
theorem E1(Z:gF X.K=bc)(Y:EY X.K=bc)(W:SE X E e m)(U:n3 e "most" X.env (gg e X.env)=gg e X.env:=by rfl):SE X E (.Attribute e "most" pos) (kG bc m):=zq Z (FX Y) W rfl U
end
end S7
namespace S3
open PySem PySem.Spec PyProof.Rows L2 S4
mutual
theorem uI:∀d,fU n d=bc->jr n g d=ar d
 | .lst k,h=>by unfold fU at h;unfold jr;rw[if_pos (MQ h)]
 | .tup ds,h=>by unfold fU at h;unfold jr;rw[i9 ds h];rfl
 | .ro ds,h=>by unfold fU at h;unfold jr;rw[i9 ds h];rfl
 | .fz ds,h=>by unfold fU at h;unfold jr;rw[i9 ds h];rfl
 | .fn _ _ _ ds _,h=>by unfold fU at h;unfold jr;rw[i9 ds h];rfl
 | .exc _ ds,h=>by unfold fU at h;unfold jr;rw[i9 ds h];rfl
 | .non,_=>by unfold jr;rfl
 | .bl _,_=>by unfold jr;rfl
 | .int _,_=>by unfold jr;rfl
 | .str _,_=>by unfold jr;rfl
 | .emp,_=>by unfold jr;rfl
theorem i9:∀ds,cG n ds=bc->gZ n g ds=ar ds
 |[],_=>by unfold gZ;rfl
 |d::ds,h=>by
  unfold cG at h;rw[MH]at h;unfold gZ;rw[uI d h.1,i9 ds h.2]
end
mutual
theorem zv(Z:m<=n):∀d,fU m d=bc->fU n d=bc
 | .lst k,h=>by unfold fU at h⊢;exact L8 (Mc (MQ h) Z)
 | .tup ds,h=>by unfold fU at h⊢;exact jQ Z ds h
 | .ro ds,h=>by unfold fU at h⊢;exact jQ Z ds h
 | .fz ds,h=>by unfold fU at h⊢;exact jQ Z ds h
 | .fn _ _ _ ds _,h=>by unfold fU at h⊢;exact jQ Z ds h
 | .exc _ ds,h=>by unfold fU at h⊢;exact jQ Z ds h
 | .non,_=>by unfold fU;rfl
 | .bl _,_=>by unfold fU;rfl
 | .int _,_=>by unfold fU;rfl
 | .str _,_=>by unfold fU;rfl
 | .emp,_=>by unfold fU;rfl
theorem jQ(Z:m<=n):∀ds,cG m ds=bc->cG n ds=bc
 |[],_=>by unfold cG;rfl
 |d::ds,h=>by
  unfold cG at h⊢;rw[MH]at h⊢;exact⟨zv Z d h.1,jQ Z ds h.2⟩
end
section
variable {c:M D}{S:aF}{Q:D->aF->Prop}{v:D}
theorem E2:jt (a_ v)=a_ v:=by
 funext S;show(if S.length<=S.length then _ else _)=_;rw[if_pos (LU _)];rfl
theorem C8:jt (M.raise x)=M.raise x:=rfl
theorem nW(e:c S=ar (.ok d,S'))(X:qJ S S')(Y:S.length<S'.length\/u=d)(W:S.length<=S'.length)(Z:jr S.length (xX S' S.length 60) d=ar u):jt c S=ar (.ok u,S'.take S.length):=by
 unfold jt;rw[e];dsimp only;by_cases h:S'.length<=S.length
 ·have hd:u=d:=Y.resolve_left (by omega)
  rw[if_pos h,hd,OD h]
 ·rw[if_neg h,if_pos X,Z]
theorem E3(h:runs c S fun d Z=>qJ S Z/\S.length<=Z.length/\fU S.length d=bc/\Q d (Z.take S.length)):runs (jt c) S Q:=by
 obtain⟨d,Z,e,X,Y,hd,q⟩:=h;exact⟨d,_,nW e X (.inr rfl) Y (uI d hd),q⟩
theorem qK:qJ S (S++G):=fun k xs Z e=>.inl (by rw[Mv Z]at e;exact e)
theorem C9(h:runs c S fun d Z=>(∃G,Z=S++G)/\fU S.length d=bc/\Q d S):runs (jt c) S Q:=by
 obtain⟨d,Z,e,⟨G,rfl⟩,hd,q⟩:=h;exact E3 ⟨d,_,e,qK,by simp,hd,by simpa using q⟩
theorem wg(h:runs c S fun d Z=>∃G p us,d= .lst p/\Z=S++G/\Z[p]? =ar us/\S.length<=p/\cG S.length us=bc/\Q (.fz us) S):runs (jt c) S Q:=by
 obtain⟨d,Z,e,G,p,us,rfl,rfl,Y,U,W,q⟩:=h;have X:=(LX.mp Y).1;refine⟨.fz us,S,?_,q⟩;have:=nW (u:=.fz us) e qK (.inl (by omega)) (by simp) (by
  unfold jr;rw[if_neg (by omega)]
  show(((S++G)[p]?).bind fun xs=>gZ S.length (xX (S++G) S.length 59) xs).map D.fz=_;rw[Y,NP,i9 us W];rfl)
 rw[this];simp
theorem bW{α:Type}{c:M α}{v:α}(h:∀S,runs c S fun d Z=>d=v/\Z=S):c=a_ v:=by
 funext S;obtain⟨d,Z,e,rfl,rfl⟩:=h S;exact e
theorem JH(Y:fU 0 v=bc)(h:∀S,runs c S fun d Z=>d=v/\∃G,Z=S++G):jt c=a_ v:=
 bW fun S=>C9 (sP (h S) fun d Z ⟨e,g⟩=>⟨g,by rw[e];exact zv (Mg _) v Y,e,rfl⟩)
theorem E4(Y:cG 0 us=bc)(h:∀S,runs c S fun d Z=>∃G p,d= .lst p/\Z=S++G/\Z[p]? =ar us/\S.length<=p):jt c=a_ (.fz us):=
 bW fun S=>wg (sP (h S) fun d Z ⟨G,p,e1,e2,e3,e4⟩=>⟨G,p,us,e1,e2,e3,e4,jQ (Mg _) us Y,rfl,rfl⟩)
theorem cL(Z:cG 0 us=bc)(Y:us.length<=lim):jt (bJ us)=a_ (.fz us):=
 E4 Z fun S=>AI.mpr ⟨Y,[us],S.length,rfl,rfl,by simp,LU _⟩
end
theorem eV:jz ⟨its,.none⟩=a_ ():=by
 funext S;unfold jz;rw[if_pos (show Iter.okS ⟨its,.none⟩ S from trivial)];rfl
section
variable {its:List D}{g:nD}{t:aQ->M Bool}{m:TM}
theorem wj(R:aQ->Prop)(q:D->Bool)(f:D->D):∀(items:List D) (ρ:aQ),R ρ->(∀d∈items,∀ ρ,R ρ->∃Z,g d ρ=a_ Z/\R Z/\t Z=a_ (q d)/\(q d=bc->m Z=a_ (f d)))->
  dz ⟨its,.none⟩ g t m items ρ=a_ ((items.filter q).map f)
 |[],ρ,_,_=>by unfold dz;rw[eV];rfl
 |d::ds,ρ,hR,hb=>by
  obtain⟨Z,e1,Y,e2,e3⟩:=hb d (Md ..) ρ hR;have W:=wj R q f ds Z Y fun x X=>hb x (L5 _ X);unfold dz;rw[eV,ay,e1,ay,e2,ay,W];cases hq:q d with
  |true=>rw[NK hq,if_pos rfl,e3 hq,ay];rfl
  |false=>rw[NL (by rw[hq];decide),if_neg (by decide)]
theorem uJ(R:aQ->Prop)(q:D->Bool)(f:D->D)(Y:its.length<=lim)(X:R ρ)(Z:∀d∈its,∀ ρ,R ρ->∃ ρ1,g d ρ=a_ ρ1/\R ρ1/\t ρ1=a_ (q d)/\(q d=bc->m ρ1=a_ (f d))):
  i5 ⟨its,.none⟩ g t m ρ=a_ ((its.filter q).map f):=by
 unfold i5;rw[if_pos Y];exact wj R q f its ρ X Z
end
end S3
namespace S7
open PySem PySem.Spec PyProof.Rows L2 S3
def Da(cx:Str)(jn jy:Nat)(c:M D)(ρ:S3.aQ):M Out:=fun S=>match c S with
 |some (.ok _,S')=>ar (.ok (.nx ρ),S')
 |some (.ex (.exc n ds),S')=>if n∈a9/\br n cx=bc then ar (.ok (.nx (((ρ.set jn (ar (.exc n ds))).set jy (ar (.exc n ds))).set jn none)),S')else none
 |_=>none
open Classical in
def oR(cx:Str)(i jn jy:Nat)(f:D)(c:M D):cJ:=fun ρ=>if ρ[i]? =ar (ar f)then Da cx jn jy c ρ else M.fail
section
variable {X:Cx}{E:XD}{k i jn jy:Nat}{a c':dt}{ql:Str}{ds:List D}{vs:List V}{m:TM}{x n y cx:Str}{p cpos epos np p1 p2 p3 hpos tpos:Pos}
theorem E5(P:cx∈a9)(s:X.stack=X.env::X.outer)(t:X.env.frame=ar X.env.locals)(L:LamOk X.prog X.w X.K X.mg X.base k a (HB X.K c' ql ds vs m))(hr:Room k X.A)(hN:X.N.Nodup)(c:gF X.K=bc)(G:Mod X.K X.mg X.base)(hi:X.N[i]? =ar x)(hv:zY X.env.scope x)
  (I:X.N[jn]? =ar n) (o:X.N[jy]? =ar y) (f:X.env.scope.names.lookup n=ar .local) (l:X.env.scope.names.lookup y=ar .local) (hg:Gl X cx)
  (hd:(x==("__debug__":Str))=false:=by decide) (B:(x==("__classdict__":Str))=false:=by decide) (g:(cx==("__debug__":Str))=false:=by decide) (F:(n==("__debug__":Str))=false:=by decide) (Q:(n==("__classdict__":Str))=false:=by decide)
  (j:ly (.Call (.Name x p) [] [] cpos) none epos.line X.env=a_ false:=by rfl) (J:ly (.Name n p2) (ar (.Name y p1)) p3.line X.env=a_ false:=by rfl):
  SS X E (.Try [.Expr (.Call (.Name x p) [] [] cpos) epos] [.ExceptHandler (ar (.Name cx np)) (ar n) [.Assign [.Name y p1] (.Name n p2) p3] hpos] [] [] tpos) (oR cx i jn jy (.fn a c' ql ds vs) (m (ds.map ar))):=by
 obtain⟨CW,b⟩:=jj c P;refine PS.imp (sS s t L hr hN hi hv I o f l hg (Mb G.kin G.glob b.ns) hd B g F Q j J) fun T σ H h=>?_;obtain⟨ι,S,ρ,rep,re,r,S',e,q⟩:=h;have e:oR cx i jn jy (.fn a c' ql ds vs) (m (ds.map ar)) ρ S=ar (r,S'):=e;unfold oR at e;by_cases hρ:ρ[i]? =ar (ar (.fn a c' ql ds vs))
 case neg=>rw[if_neg hρ]at e;cases e
 rw[if_pos hρ]at e;unfold Da at e;obtain⟨v,e1,rv⟩:=re.get hρ;cases rv with
 | fn hc' rds=>
  refine⟨e1,ι,S,rep,hc',rds,?_⟩;cases z:m (ds.map ar) S with
  |none=>rw[z]at e;cases e
  | some pr=>
   obtain⟨r1,S1⟩:=pr;rw[z]at e;cases r1 with
   |ok d=>
    cases e;exact⟨_,_,z,fun Z U O rep1 v' _=>q Z U O rep1 σ (re.later rep O)⟩
   | ex xd=>
    cases xd with
    | exc nm es=>
     dsimp only at e;split at e
     case isFalse=>cases e
     case isTrue hnm=>
     cases e;refine⟨_,_,z,fun Z U O rep1 cls od rx=>?_⟩;obtain⟨n2,b1,C,e2,Y,rfl,u⟩:=rx;cases e2;obtain⟨C2,EA⟩:=jj c hnm.1;have:=EA.ns;rw[Y]at this;cases this;obtain⟨D2,f1,f2,f3⟩:=EA.sub cx P;rw[b.ns]at f1;cases f1;refine⟨C,rfl,by rw[f3,hnm.2],fun R W=>?_⟩
     have xe:Ext Z U Z (upd U R (.ext (mI C R od))):=fi W;have rn:RelD X.K Z (upd U R (.ext (mI C R od))) (.exc nm es) (.ref R):=by
      rcases u with⟨rfl,rfl⟩|⟨dx,fs,rfl,g1,g2,g3⟩
      ·exact .exc Y aV
      ·exact .excF Y aV (by rw[aI (aR g1 W)];exact g1) g2 (g3.later rep1 xe)
     exact q Z _ (O.trans xe) (gf rep1 W) _ (RelE.unset jn ((((re.later rep O).later rep1 xe).set rn jn).set rn jy))
    |_=>cases e
end
open Classical in
def m9(i:Nat)(fv:D)(ms:S3.aQ->M (List D))(cc:M D)(R:M D->List D->M D):TM:=fun ρ=>if ρ[i]? =ar (ar fv)then (do let es<-ms ρ;R cc es)else M.fail
section
variable {X:Cx}{x ql:Str}{k k0 i:Nat}{a c':dt}{ps:List Str}{R:D->M D->List D->M D}{R':M D->List D->M D}{p pos:Pos}{e:Expr}{es:List Expr}{ms:S3.aQ->M (List D)}{m:TM}{ds:List D}{vs:List V}
open Classical in
theorem E6(d:RefX X.prog X.w X.K X.mg k k0 x ps R)(z:∀f c es,R f c es=R' c es)(G:Mod X.K X.mg X.base)(L:LamOk X.prog X.w X.K X.mg X.base k0 a (HB X.K c' ql ds vs m))(s:Room k X.A)(t:SE X gh e (mV i))(O:SA X gh es ms)
  (J:Gl X x:=by rfl) (Y:(x==("__debug__":Str))=false:=by decide) (P:d_ (e::es) X.env=(c_,gg e X.env)::d_ es X.env:=by rfl) (T:(pa pos (d_ es X.env)).any (·.1)=false:=by rfl):
  SE X gh (.Call (.Name x p) (e::es) [] pos) (m9 i (.fn a c' ql ds vs) ms (m (ds.map ar)) R'):=by
 obtain⟨fr,fd,hm,u,C,F⟩:=d.ex;refine PE.imp (tP (F X.base G a c' ql ds vs m L) s J hm u C (.nil) (E:=E0) sR (af t O P) Y P T) fun σ H Q h=>?_;obtain⟨ι,S,ρ,rep,re,c⟩:=h;have c:cont X.K gh (m9 i (.fn a c' ql ds vs) ms (m (ds.map ar)) R' ρ) ι S H (kT X.K Q):=c;have I:cont X.K gh (ae (mV i) ms ρ>>=fun l=>match l with|d0::es=>(if d0= .fn a c' ql ds vs then R' (m (ds.map ar)) es else M.fail)|[]=>M.fail) ι S H (kT X.K Q):=by
  unfold m9 at c;by_cases hρ:ρ[i]? =ar (ar (.fn a c' ql ds vs))
  ·rw[if_pos hρ]at c;have e1:ae (mV i) ms ρ=ms ρ>>=fun es=>a_ (.fn a c' ql ds vs::es):=by
    show(Ej ρ i>>=fun x=>ms ρ>>=fun xs=>a_ (x::xs))=_;unfold Ej;rw[hρ];rfl
   rw[e1,eB];have e2:(fun es=>(a_ (D.fn a c' ql ds vs::es):M (List D))>>=fun l=>match l with|d0::es=>(if d0= .fn a c' ql ds vs then R' (m (ds.map ar)) es else M.fail)|[]=>M.fail)=fun es=>R' (m (ds.map ar)) es:=by
    funext es;rw[ay];exact if_pos rfl
   rw[e2];exact c
  ·rw[if_neg hρ]at c;exact(ah c).elim
 refine⟨ι,S,ρ,rep,re,az (aq I) fun l W S1 N e1 rep1 Z us U=>?_⟩;show zb X.K R a c' ql ds vs m (us++[]) N Q E0;rw[MI]
 match l,Z,U with
 |[],Z,_=>exact(ah Z).elim
 | d0::es,Z,U=>
  dsimp only at Z;by_cases hd:d0= .fn a c' ql ds vs
  ·rw[if_pos hd]at Z;subst hd;obtain⟨v,ws,rfl,y,B⟩:=U.cons_inv;cases y with
   |fn hc' rds=>exact⟨W,S1,ws,es,rfl,rep1,hc',rds,B,by rw[z];exact Z⟩
  ·rw[if_neg hd]at Z;exact(ah Z).elim
end
section
variable {X:Cx}{E:XD}{pos:Pos}
def La(K:dV)(n:Nat)(t:FJ):TG:=fun v σ H Q=>∃a xs,v= .ref a/\kg K H a xs/\xs.length=n/\t xs σ H Q
theorem HJ(T:X.calm=bc)(h:Bi X es t)
  (L:(l_ es X.env).length=n:=by rfl) (Z:(l_ es X.env).findIdx? (·.1)=none:=by rfl):PG X (.Tuple es k pos) (La X.K n t):=by
 intro pins s σ H v u Q I r hw;obtain⟨a,xs,e1,P,S,hw⟩:=hw;subst e1;cases r;obtain⟨its,Y,O,G⟩:=I.list P;have J:s.heap.IsList a its.toArray:=by
  obtain⟨o,n',e1,e2,e3,N⟩:=O;exact⟨o,e1,e2,n',N⟩
 rw[assign_Tuple];refine LP (M7 ?_);unfold unpack;rw[show(l_ es X.env).length=its.toArray.size by simp[L, <-S,Y.length],Z]
 refine LP (ME (W.kun_itemsOf (I.ok.hd T) J fun h' R=>?_));have U:L2.Inv X pins σ H {s with heap:=h'}:=I.kept (t':=s.toks) fun b o e=>R b o (L7 (LZ e)) e;exact h pins _ σ H xs _ Q U (by simpa using Y) hw
def qL(n:Nat)(gs:List D->S3.aQ->M S3.aQ):nD:=fun d ρ=>match d with
 | .fz ds=>if ds.length=n then gs ds ρ else M.fail
 |_=>M.fail
theorem Dc(Y:X.calm=bc)(h:Jn X E es gs)(W:(l_ es X.env).length=n:=by rfl)(Z:(l_ es X.env).findIdx? (·.1)=none:=by rfl):
  SG X E (.Tuple es k pos) (qL n gs):=by
 refine PG.imp (HJ Y h W Z) fun v σ H Q q=>?_;obtain⟨ι,S,ρ,d,rep,re,r,c⟩:=q;cases d with
 |fz ds=>
  cases r with
  |fz h1 h2=>
  dsimp only[qL]at c;split at c
  ·next hl=>exact⟨_,_,rfl,.inl (.inr ⟨_,h1⟩),by rw[<-h2.length];exact hl,ι,S,ρ,ds,rep,re,h2,c⟩
  ·exact(ah c).elim
 |_=>exact(ah c).elim
end
end S7
namespace S3
open PySem PySem.Spec PySem.W PyProof.Rows L2 S4
section
variable {X:Cx}{E:XD}{e:Expr}{m:TM}{pos:Pos}
theorem rX:dX X (.builtin "sorted") (fun xs H Q=>∃(p:dt) (ns:List Int),xs=[.ref p]/\lD X.K H p (ns.map V.int)/\ns.length<64/\∀l,H l=none->Q (.ref l) (upd H l (.lst ((sortI ns).map V.int)))):=by
 intro pins s σ H xs us Q I r h;obtain⟨p,ns,rfl,C,N,q⟩:=h;obtain⟨u,rfl,F⟩:=vals1 r;cases (show u=er p from F);obtain⟨its,S,⟨o,J,L,n,hd⟩,G⟩:=I.tuple C;have P:oD its ns:=O1 S;have hlen:=S.length;rw[LR]at hlen G;refine Pk kind_sorted plain_sorted entry_sorted (args_sorted1 _) ?_;unfold Builtin.«sorted»;refine LP (m:=checkCount "sorted" 1 1 _) (LS ?_);refine LP (wpAny_collect_seq p (.inr rfl) J L hd (fun h' keep=>?_) (by rw[L6];omega))
 rw[List.toList_toArray];refine LP (QF ?_ (by rw[MT];omega))
 have Z:(h'.push (td "list" its.toArray 0)).get? h'.objs.size=ar (td "list" its.toArray 0):=L3 _ rfl;refine LP (ME (ML slot_list_sort ⟨_,Z,rfl⟩ entry_list_sort (list_sort_tree Z P (by omega) fun out U a1 a2 O=>⟨_,rfl,?_⟩) (args_list_sort _)))
 refine LS ⟨_,rfl,?_⟩;have en:U=sortI ns:=W.lks_uniq (a2.trans (sortI_perm ns).symm) O (fq ns);subst en;obtain⟨c,T⟩:=sortedHeap_at (vs:=its) (out:=out) Z;have R:L2.Inv X pins σ H {s with heap:=h',toks:=s.toks}:=I.kept keep;have hf:H h'.objs.size=none:=R.hok.fresh (LU _);refine⟨.ref h'.objs.size,_,R.laid (t':=s.toks) (o:=.lst ((sortI ns).map V.int)) (fun b o e=>?_) (LU _) ⟨?_,out.toList,c,ju a1,T⟩,rfl,q _ hf⟩
 ·have Y:b<h'.objs.size:=LZ e;rw[sortedHeap_old (L7 Y) (by rw[size_push'];exact M3 Y)]
  exact LQ _ e
 ·rw[LR,(sortI_perm ns).length_eq,MT];omega
def iN:List D->M D
 |[.tup xs]=>match intsOf xs with
  |some ns=>if ns.length<64 then bJ ((sortI ns).map D.int)else M.fail
  |none=>M.fail
 |_=>M.fail
theorem qM:lF X.K E iN (fun xs H Q=>∃(p:dt) (ns:List Int),xs=[.ref p]/\lD X.K H p (ns.map V.int)/\ns.length<64/\∀l,H l=none->Q (.ref l) (upd H l (.lst ((sortI ns).map V.int)))):=by
 intro ι S H ds vs Q rep r c;unfold iN at c;split at c
 ·next es=>
  obtain⟨v,ws,rfl,W,U⟩:=r.cons_inv;cases U.nil_inv;obtain⟨p,us,rfl,Z,Y⟩:=W.tup_inv;cases q:intsOf es with
  |none=>rw[q]at c;exact(ah c).elim
  | some ns=>
   rw[q]at c;have c:cont X.K E (if ns.length<64 then bJ ((sortI ns).map D.int)else M.fail) ι S H (kT X.K Q):=c;by_cases h:ns.length<64
   ·rw[if_pos h]at c;exact⟨p,ns,rfl,.of (by rw[<-gI Y q];exact Z),h,(bD c rep (mW _)).2⟩
   ·rw[if_neg h]at c;exact(ah c).elim
 ·exact(ah c).elim
theorem ya{p:Pos}(Y:X.mg "sorted"=none)(W:SE X E e m)(Z:Gl X "sorted":=by rfl)(hs:d_ [e] X.env=[(c_,gg e X.env)]:=by rfl):SE X E (.Call (.Name "sorted" p) [e] [] pos) (fun ρ=>do let ds<-(do let x<-m ρ;let xs<-a_ [];a_ (x::xs));iN ds):=
 jx rX qM Z Y (by decide+kernel) (af W ai hs) (by decide) (by decide) hs rfl
end
end S3
namespace S3
open PySem PySem.Spec PyProof.Rows L2 PySem.SeqAt
theorem qN{M:Ry}{A:gd}{E:aC->b_->Prop}{s:b_}{X:Type}{b:Nat}(f:Nat->X->Sem (ForInStep X))(I:Nat->X->b_->Prop)(Q:X->b_->Prop)
  (Z:∀i c s,i<b->I i c s->eb M A (f i c) (fun r s'=>match r with| .yield c'=>I (i+1) c' s'| .done c'=>Q c' s') E s)
  (W:∀c s,I b c s->Q c s) (c:X) (h:I 0 c s):eb M A (RB [:b] c f) Q E s:=by
 rw[Std.Legacy.Range.forIn_eq_forIn_range'];have U:([:b]:Std.Legacy.Range).size=b:=by simp[Std.Legacy.Range.size]
 show eb M A (RB (o_ 0 ([:b]:Std.Legacy.Range).size 1) c f) Q E s;rw[U];refine Od f (fun l c s=>∃i,i<=b/\l=o_ i (b - i) 1/\I i c s) Q ?_ ?_ _ c ⟨0,Mg _,rfl,h⟩
 ·rintro x rest c s ⟨i,hib,hl,hI⟩;have Y:i<b:=by
   rcases Nat.lt_or_ge i b with h'|h'
   ·exact h'
   ·rw[show b - i=0 by omega]at hl;simp at hl
  obtain⟨n,T⟩:∃n,b - i=n+1:=⟨b - i - 1,by omega⟩
  rw[T,List.range'_succ]at hl;obtain⟨rfl,rfl⟩:=NJ hl;refine MJ (Z x c s Y hI) (fun r s' h'=>?_) fun _ _ h'=>h';cases r with
  |done c'=>exact h'
  |yield c'=>exact⟨x+1,Y,by congr 1;omega,h'⟩
 ·rintro c s ⟨i,hib,hl,hI⟩;have:b - i=0:=by
   have:=N4 G2 hl;simpa using this.symm
  have:i=b:=by omega
  subst this;exact W c s hI
theorem rY(l:dt)(items:Array aC)(n:Nat)(dd:Option dt)(S:Array (Option aC))(x:aC)(e:aC->Bool)(j:Nat)(P:j<items.size)(Y:e items[j]=bc)(X:∀m (hm:m<items.size),m<j->e items[m]=c_):
  Sa (Builtin.«tuple.index» ⟨[.ref l,x],[]⟩)
   (fun A R s=>s.heap.get? l=ar {cls:=.type "tuple",dict:=dd,data:=.seq items n,slots:=S}/\(∀y,y∈items->EqAt A.in1 s y x (e y))/\R (.ok (.ret (.int j s.toks))) {s with toks:=s.toks+1}):=
 .of_wp fun prog w A R s h=>by
  obtain⟨Q,g,d,T,os⟩:=s;obtain⟨U,he,h⟩:=h;have W:min items.size items.size=items.size:=Nat.min_self _
  wp_walk using PZ U,qN _ (fun i b s'=>i<=j/\b.1=none/\s'=⟨Q,g,d,T,os⟩) _
  next=>
   rintro i b s' hi ⟨hij,hb,rfl⟩;have Z:i<items.size:=by omega
   rw[L4 Z];refine LP (he _ (Array.getElem_mem Z) prog w _ _ ?_);by_cases hc:i=j
   ·subst hc;rw[Y]
    wp_walk
    exact⟨_,rfl,h⟩
   ·rw[X i Z (by omega)]
    wp_walk
    exact⟨by omega,rfl,rfl⟩
  next=>
   rintro b s' ⟨hij, -, -⟩;omega
  next=>
   exact⟨Mg _,rfl,rfl⟩
section
variable {X:Cx}{E:XD}{o e:Expr}{es:List Expr}{m:TM}{ms:aQ->M (List D)}{pos:Pos}
def kH:D->List D->M D:=fun t ds S=>match ds with
 | [x]=>match ji S 60 t,ji S 60 x with
  |some (.tuple xs),ar p=>match xs.findIdx? fun y=>gc y p with
   |some j=>ar (.ok (.int j),S)
   |none=>none
  |_,_=>none
 |_=>none
def Dd:V->List V->Hp->VK->Prop:=fun x vs H Q=>∃y p xs j,vs=[y]/\(ReadsV H x (.tuple xs)/\(w8 xs).canLay0=bc/\(w8 xs).depth<=60)/\(ReadsV H y p/\p.canLay0=bc/\p.depth<=60)/\xs.findIdx? (fun z=>gc z p)=ar j/\Q (.int j) H
theorem De(w:X.A.units+64<u4):J9 X "tuple.index" Dd:=by
 intro pins s σ H x vs v us Q I C O h;obtain⟨y,p,xs,j,rfl,⟨N,T,J⟩,⟨K,P,z⟩,U,q⟩:=h;obtain⟨u,rfl,L⟩:=O.one;obtain⟨as,S⟩:=N.heap I.hok C;obtain⟨bs,B⟩:=K.heap I.hok L;cases S with
 | @tuple a ob its n _ _ h1 h2 h3 h4=>
  obtain⟨cls,dd,data,G⟩:=ob;simp only at h2 h3;subst h2 h3;have Z:=readsAll_map xs _ _ T h4;rw[<-Z,List.findIdx?_map]at U;obtain⟨Y,hit,W⟩:=List.findIdx?_eq_some_iff_getElem.mp U;have hd:=oC J;have hm:min (pz xs) p.depth<=60:=Ma (P2 _ _) hd;refine Qh F.slot_tuple_index ⟨_,h1,rfl⟩ F.entry_tuple_index (F.args_tuple_index_2 _ _)
   (rY a its n dd G u (fun y=>gc (readOf s.heap y) p) j (by simpa using Y) (by simpa using hit) (fun m hm R=>by simpa using W m R)) ⟨h1,items_eqAt h4 B T P (by omega),?_⟩
  exact⟨.int j,H,I.tok _,⟨_,rfl⟩,q⟩
theorem AS:Jm X.K E kH Dd:=by
 intro ι S H d ds v vs Q rep r rs c;obtain⟨W,U,e,k⟩:=c;unfold kH at e;split at e
 ·next x=>
  obtain⟨w,ws,rfl,Z,Y⟩:=rs.cons_inv;cases Y.nil_inv;split at e
  ·next xs p hp hq=>
   split at e
   ·next j hj=>
    cases e;exact⟨w,p,xs,j,rfl,kX rep 60 d _ v hp r,kX rep 60 x p w hq Z,hj,k ι H .refl rep _ (.int _)⟩
   ·cases e
  ·cases e
 ·cases e
def Lq:D->M Unit
 | .tup _=>a_ ()
 |_=>M.fail
abbrev AU(f:D->List D->M D)(m n:TM):TM:=fun ρ=>do let x<-m ρ;Lq x;let ds<-(do let y<-n ρ;let ys<-a_ [];a_ (y::ys));f x ds
theorem wk{n:TM}{Z:Pos}(I:X.A.units+64<u4)(O:SE X E o m)(P:SE X E e n)
  (W:n3 o "index" X.env (gg o X.env)=gg o X.env:=by rfl)
  (Y:(Z.endLine==pos.line)=true:=by rfl) (hs:d_ [e] X.env=[(c_,gg e X.env)]:=by rfl):
  SE X E (.Call (.Attribute o "index" Z) [e] [] pos) (AU kH m n):=by
 refine PE.imp (FO PySem.F.plainAttrs_tuple PySem.F.slot_tuple_index PySem.F.type_tuple_index (De I) O (af P ai hs) W (by rw[hs];rfl) Y hs rfl) fun σ H Q h=>?_
 obtain⟨ι,S,ρ,rep,re,c⟩:=h;refine⟨ι,S,ρ,rep,re,az (aq c) fun x U S1 C e1 rep1 R v J=>?_⟩;cases x with
 |tup us=>
  have K:=aj (aq R) .refl rep1;cases J with
  |tup hv hs=>exact⟨.inr (.inl ⟨rfl,_,hv⟩),U,S1,ρ,rep1,re.later rep e1,az (aq K) fun ds T S2 L e2 rep2 N vs G=>AS T S2 L _ ds _ vs Q rep2 ((RelD.tup hv hs).later rep1 e2) G N⟩
 |_=>exact(ah (aq R)).elim
end
end S3
namespace S7
open PySem PySem.Spec PyProof.Rows L2 S3 S4
theorem E7{i j:Nat}{ms:Bh}:kB (dZ ms) (fE 2 (bb (gN i) (bb (gN j) dY)))=uD i j ms:=by
 funext ρ;unfold kB dZ uD;rw[eB];refine N4 _ ?_;funext ds
 match ds with
 |[]=>rfl
 |[d]=>rfl
 |[d,e]=>rfl
 |d::e::f::r=>
  funext S;show(bU _>>=_) S=_;unfold bU;split<;>rfl
theorem E8{X:Cx}{E:XD}{Z:p4}{i j:Nat}{ms:Bh}(h:SS X E Z (kB (dZ ms) (fE 2 (bb (gN i) (bb (gN j) dY))))):SS X E Z (uD i j ms):=E7 ▸ h
end S7
namespace S7
open PySem PySem.Spec PyProof.Rows L2 S3
section
variable {P:ee}{w:eM}{K:dV}{mg:Str->Option aC}{base:fg}
theorem E9{x qual:Str}{Y:p4}{f:dt}{U:fc}{N X:List Str}{k:Nat}{m:cJ}{T:List D->M D}{c S:dt}(F:Fun K x qual Y f U)(I:mg x=ar (.ref f))(J:Binds K U X [])(Q:FnScope N X (au Y))(O:T=kF N.length X.length m)(R:pb K f' x=ar (ar (.ref f)))(L:mv K x=ar (c,S))
  (Z:∀(A:gd) (outer:List Env) (s:b_) (H:Hp) (E:XK),Room k (A.deeper (y1 qual (au Y) s.heap.objs.size f (.ref c)))->
   vn (jH (lg P w) P w K mg base N qual (au Y) f (.ref c) A outer s H E).nox gh (dC Y) m):DefX P w K mg base (k+1) x X T:=
 ⟨f,U,CK F Q O R L Z,I,F.kp,J⟩
end
end S7
namespace W
open PySem PySem.Spec PyProof.Rows L2 S3 S4 S7
def qO:cJ:=bp (qB (fu (mV 0) "int") (JA (fu (mV 0) "bool")))
def cU:List D->M D:=kF 1 1 qO
def sX:cJ:=bp (qB (fu (mV 0) "tuple") (aX rR (b9 cz (mV 0)) (mK (.int 2))))
def dH:List D->M D:=kF 1 1 sX
def iO:kb:=lH
def iP:TM:=aX lB (mV 0) (mV 1)
def oU:cJ:=bp (b9 mR (aP (cq (sU (mV 0) (aP (nE (mV 0) (oS (mK (.int 1))) (oN)))) (fE 2 (bb (gN 0) (bb (gN 1) (dY)))) iO iP [none,none])))
def fZ:List D->M D:=kF 1 1 oU
def qP:cJ:=bp (aX inD (dZ (ae (av minD (ae (mV 1) (ae (mV 2) (ao)))) (ae (av maxD (ae (mV 1) (ae (mV 2) (ao)))) (ao)))) (aX bA (mV 0) (mK (.int 1))))
def eW:List D->M D:=kF 3 3 qP
def gm:kb:=lH
def gn:TM:=b9 cY (aP (b9 bZ (aP (bx (ae (aX bA (mV 2) (mV 0)) (ae (aX bA (mV 2) (mV 1)) (ao)))))))
def kI:cJ:=bp (aP (cq (iq (aX bA (mV 0) (mK (.int 1)))) (fE 2 (bb (gN 0) (bb (gN 1) (dY)))) gm gn [none,none,ar 1]))
def cV:List D->M D:=kF 2 2 kI
def oV:cJ:=aH (il (bV (aX bA (mV 0) (mK (.int 1)))) (aH (bH 2 (aX uh (aX bA (mV 0) (mK (.int 0))) (mV 1))) (aH (kB (aX yH (aX bA (mV 0) (mK (.int 0))) (mV 1)) (DU (mV 0) (mK (.int 0)))) (bp (mV 2)))) (cK)) (aH (kB (aX uh (aX bK (aX ug (aX bA (mV 0) (mK (.int 0))) (mK (.int 48271))) (mK (.int 29))) (mK (.int 2147483647))) (DU (mV 0) (mK (.int 0)))) (aH (bH 3 (aX uh (aX bK (aX bK (aX ug (aX bA (mV 0) (mK (.int 0))) (aX bA (mV 0) (mK (.int 0)))) (aX ug (mK (.int 39373)) (aX bA (mV 0) (mK (.int 0))))) (mK (.int 7))) (mK (.int 2147483629)))) (aH (bH 3 (aX uh (aX bK (aX ug (mV 3) (mV 3)) (aX ug (mK (.int 16807)) (mV 3))) (mK (.int 2147483587)))) (bp (aX uh (aX yH (mV 3) (mK (.int 8))) (mV 1))))))
def aw:List D->M D:=kF 4 2 oV
def kJ:cJ:=aH (il (dG lB (mV 1) (b9 cz (mV 0))) (bp (aX bA (mV 0) (mV 1))) (cK)) (bp (mK (.int 0)))
def dI:List D->M D:=kF 2 2 kJ
def eX:cJ:=il (oH (dG inD (aX bA (aX bA (mV 1) (mV 3)) (mK (.int 0))) (aX bA (mV 1) (mV 4))) (dG inD (aX bA (aX bA (mV 1) (mV 3)) (mK (.int 1))) (aX bA (mV 1) (mV 4)))) (nF (xQ dE (mV 2) (dZ (ae (mV 3) (ae (mV 4) (ao)))))) (cK)
def iQ:cJ:=jB (Hw (aX bK (mV 3) (mK (.int 1))) (b9 cz (mV 1))) (gN 4) eX
def ja:cJ:=aH (bH 1 (aX bA (mV 0) (mK (.int 1)))) (aH (bH 2 (bx (ao))) (aH (jB (oJ (b9 cz (mV 1))) (gN 3) iQ) (bp (dZ (ae (b9 cz (mV 1)) (ae (b9 cY (mV 2)) (ao)))))))
def f7:List D->M D:=kF 5 1 ja
def d4:cJ:=nF (xQ dE (mV 2) (dZ (ae (av minD (ae (aX bA (mV 1) (mV 3)) (ae (aX bA (mV 1) (mV 4)) (ao)))) (ae (av maxD (ae (aX bA (mV 1) (mV 3)) (ae (aX bA (mV 1) (mV 4)) (ao)))) (ao)))))
def iy:cJ:=aH (bH 2 (bx (ao))) (aH (jB (iq (aX bA (mV 0) (mK (.int 1)))) (fE 2 (bb (gN 3) (bb (gN 4) (dY)))) d4) (bp (dZ (ae (aX bA (mV 0) (mK (.int 0))) (ae (b9 cY (aP (b9 bZ (mV 2)))) (ao))))))
def cM:List D->M D:=kF 5 2 iy
def ng:cJ:=bp (qB (fu (mV 0) "int") (JA (fu (mV 0) "bool")))
def gp:List D->M D:=kF 1 1 ng
def oW:cJ:=bp (aX inD (dZ (ae (av minD (ae (mV 1) (ae (mV 2) (ao)))) (ae (av maxD (ae (mV 1) (ae (mV 2) (ao)))) (ao)))) (aX bA (mV 0) (mK (.int 1))))
def dP:List D->M D:=kF 3 3 oW
def gq:cJ:=aH (bH 6 (dZ (ae (av minD (ae (aX bA (mV 2) (mV 4)) (ae (aX bA (mV 2) (mV 5)) (ao)))) (ae (av maxD (ae (aX bA (mV 2) (mV 4)) (ae (aX bA (mV 2) (mV 5)) (ao)))) (ao))))) (nF (xQ dE (mV 3) (AU kH (aX bA (mV 1) (mK (.int 1))) (mV 6))))
def kK:cJ:=aH (bH 3 (bx (ao))) (aH (jB (iq (aX bA (mV 0) (mK (.int 1)))) (fE 2 (bb (gN 4) (bb (gN 5) (dY)))) gq) (bp (b9 cY (mV 3))))
def dJ:List D->M D:=kF 7 3 kK
def qQ:cJ:=bp (qB (av cU (ae (mV 1) (ao))) (Hu G4 lB (mK (.int 0)) (mV 1) (mV 0)))
def eY:List D->M D:=kF 2 2 qQ
def jR:kb:=lH
def jS:TM:=aX rR (aP (av eW (ae (mV 1) (ae (mV 0) (ae (mV 2) (ao)))))) (aP (av eW (ae (mV 3) (ae (aX bA (mV 4) (mV 0)) (ae (mV 5) (ao))))))
def nX:cJ:=aH (bH 4 (b9 cz (mV 2))) (aH (il (dG inD (mV 3) (mV 2)) (bp (mK (.bl c_))) (cK)) (bp (b9 mR (aP (cq (oJ (mV 4)) (gN 0) jR jS [none,ar 0,ar 4,ar 1,ar 2,ar 3])))))
def iF:List D->M D:=kF 5 4 nX
def gr:cJ:=aH (bH 1 (bx (aN (mK .non) (aN (mK (.int 0)) (aN (mK (.tup [])) (aN (mK (.tup [.int 15,.tup []])) (aN (mK (.tup [.int (-1),.tup []])) (aN (mK (.tup [.bl bc,.tup []])) (aN (dZ (ae (mK (.int 2)) (ae (bx (ao)) (ao)))) (aN (bx (ae (mK (.int 2)) (ae (mK (.tup [])) (ao)))) (aN (mK (.tup [.int 2,.tup [.tup [.int 1,.int 0]]])) (aN (mK (.tup [.int 2,.tup [.tup [.int 0,.int 0]]])) (ao))))))))))))) (aH (bH 1 (aX bK (mV 1) (bx (aN (mK (.tup [.int 3,.tup [.tup [.int 0,.int 2],.tup [.int 0,.int 1]]])) (aN (mK (.tup [.int 2,.tup [.tup [.int 0,.int 1],.tup [.int 0,.int 1]]])) (aN (mK (.tup [.int 2,.tup [.tup [.int 0,.int 1,.int 1]]])) (aN (mK (.tup [.int 2,.tup [.tup [.int 0,.bl bc]]])) (aN (mK (.tup [.int 2])) (ao))))))))) (aH (bH 1 (aX bK (mV 1) (bx (ae (mK (.tup [.int 2,.tup [.tup [.int 0,.int 2]]])) (ae (mK (.str "2:")) (ae (mK .emp) (ao))))))) (aH (bH 1 (aX bK (mV 1) (bx (aN (dZ (ae (mK (.int 2)) (ae (dZ (ae (bx (ae (mK (.int 0)) (ae (mK (.int 1)) (ao)))) (ao))) (ao)))) (aN (mK (.tup [.int 2,.tup [],.tup []])) (aN (mK (.tup [.int 2,.non])) (aN (mK (.tup [.str "2",.tup []])) (ao)))))))) (bp (aX bA (mV 1) (av aw (ae (mV 0) (ae (mK (.int 22)) (ao)))))))))
def eZ:List D->M D:=kF 2 1 gr
def nh:cJ:=aH (bH 2 (av dI (ae (mV 0) (ae (mV 1) (ao))))) (aH (il (dG K2 (mV 2) (aX BR (mK (.int 10)) (mK (.int 18)))) (bp (bx (ae (aX Al (mV 2) (aX BR (mK (.int 10)) (mK (.int 18)))) (ae (mK (.bl bc)) (ao))))) (cK)) (bp (bx (ae (aX uh (mV 2) (mK (.int 2147483647))) (ae (mK (.bl c_)) (ao))))))
def gu:List D->M D:=kF 3 2 nh
def fP:kb:=dG lB (aP (av aw (ae (mV 1) (ae (mK (.int 4)) (ao))))) (mV 2)
def fQ:TM:=dZ (ae (mV 3) (ae (mV 0) (ao)))
def d9:cJ:=nF (xQ mS (mV 3) (aP (cq (Hw (aX bK (mV 4) (mK (.int 1))) (mV 1)) (gN 0) fP fQ [none,ar 0,ar 2,ar 4])))
def iz:cJ:=aH (bH 3 (bx (ao))) (aH (jB (oJ (mV 1)) (gN 4) d9) (bp (dZ (ae (mV 1) (ae (b9 cY (mV 3)) (ao))))))
def dg:List D->M D:=kF 5 3 iz
def ef:cJ:=nF (xQ dE (mV 3) (xQ nO (mV 2) (aP (av aw (ae (mV 0) (ae (b9 cz (mV 2)) (ao)))))))
def iA:cJ:=aH (bH 2 (b9 dm (mV 1))) (aH (bH 3 (bx (ao))) (aH (Hx 64 (dG ib (mV 2) (aP (bx (ao)))) ef) (bp (b9 cY (mV 3)))))
def bM:List D->M D:=kF 4 2 iA
def fR:cJ:=aH (uD 2 3 (ae (aP (av aw (ae (mV 0) (ae (aX bK (b9 cz (mV 1)) (mK (.int 1))) (ao))))) (ae (aP (av aw (ae (mV 0) (ae (aX bK (b9 cz (mV 1)) (mK (.int 1))) (ao))))) (ao)))) (aH (bH 4 (aX bA (aP (bx (aN (mV 3) (aN (b9 cz (mV 1)) (aN (mK (.int (-1))) (aN (mK (.bl bc)) (aN (mK .non) (aN (mK (.str "0")) (aN (mK (.tup [.int 0])) (aN (mK (.bl c_)) (ao))))))))))) (aP (av aw (ae (mV 0) (ae (mK (.int 8)) (ao))))))) (aH (bH 5 (b9 mQ (mV 1))) (aH (il (AH (dG lB (mV 2) (b9 cz (mV 1))) (dG lB (mV 3) (b9 cz (mV 1)))) (kB (dZ (ae (aX bA (mV 1) (mV 3)) (ae (aX bA (mV 1) (mV 2)) (ao)))) (fE 2 (bb (DU (mV 5) (mV 2)) (bb (DU (mV 5) (mV 3)) (dY))))) (cK)) (aH (bH 6 (aP (bx (aN (b9 cY (mV 5)) (aN (b9 cY (mV 5)) (aN (aP (aX bK (aP (aX bK (aP (nE (mV 1) (oN) (oS (mV 2)))) (dZ (ae (mV 4) (ao))))) (aP (nE (mV 1) (oS (aX bK (mV 2) (mK (.int 1)))) (oN))))) (aN (aP (aX bK (aP (aX bK (aP (nE (mV 1) (oN) (oS (mV 2)))) (dZ (ae (mV 4) (ao))))) (aP (nE (mV 1) (oS (mV 2)) (oN))))) (ao)))))))) (aH (bH 6 (aP (aX bK (mV 6) (aP (bx (aN (aP (aX bK (aP (nE (mV 1) (oN) (oS (mV 2)))) (aP (nE (mV 1) (oS (aX bK (mV 2) (mK (.int 1)))) (oN))))) (aN (aP (b9 mQ (mV 1))) (aN (aP (Hv (mV 1))) (aN (mK .non) (aN (mK .emp) (aN (mK (.int 0)) (ao)))))))))))) (bp (aX bA (mV 6) (aP (av aw (ae (mV 0) (ae (mK (.int 10)) (ao))))))))))))
def c8:List D->M D:=kF 7 2 fR
def fy:kb:=lH
def fA:TM:=aP (av gp (ae (mV 0) (ao)))
def gL:cJ:=il (dG ib (aP (av dP (ae (mV 0) (ae (mV 3) (ae (mV 4) (ao)))))) (aP (av dP (ae (mV 1) (ae (aX bA (mV 2) (mV 3)) (ae (aX bA (mV 2) (mV 4)) (ao))))))) (bp (mK (.bl c_))) (cK)
def cR:cJ:=jB (oJ (mV 3)) (gN 4) gL
def lK:cJ:=aH (il (oH (dG ib (aX bA (mV 0) (mK (.int 0))) (aX bA (mV 1) (mK (.int 0)))) (dq (bV (fu (mV 2) "tuple")))) (bp (mK (.bl c_))) (cK)) (aH (il (dq (bV (b9 mR (aP (cq (iq (mV 2)) (gN 0) fy fA [none]))))) (bp (mK (.bl c_))) (cK)) (aH (il (dG ib (aP (b9 iN (mV 2))) (aP (b9 dm (aX bA (mV 0) (mK (.int 0)))))) (bp (mK (.bl c_))) (cK)) (aH (jB (oJ (aX bA (mV 0) (mK (.int 0)))) (gN 3) cR) (bp (mK (.bl bc))))))
def eE:List D->M D:=kF 5 3 lK
def qR:cJ:=aH (il (dq (bV (av dH (ae (mV 1) (ao))))) (bp (mK (.bl c_))) (cK)) (aH (kB (mV 1) (fE 2 (bb (gN 2) (bb (gN 3) (dY))))) (bp (qB (av eY (ae (mV 0) (ae (mV 2) (ao)))) (qB (av eY (ae (mV 0) (ae (mV 3) (ao)))) (aX lB (mV 2) (mV 3))))))
def kL:List D->M D:=kF 4 2 qR
def bX:cJ:=il (dG FP (aP (av aw (ae (mV 0) (ae (mK (.int 8)) (ao))))) (mK (.int 0))) (aH (uD 6 7 (ae (aX bA (mV 3) (mV 5)) (ae (aX bA (mV 3) (aP (av aw (ae (mV 0) (ae (mV 5) (ao)))))) (ao)))) (nF (xQ dE (mV 4) (dZ (ae (av minD (ae (mV 6) (ae (mV 7) (ao)))) (ae (av maxD (ae (mV 6) (ae (mV 7) (ao)))) (ao))))))) (cK)
def bY:cJ:=aH (kB (aP (b9 bZ (aP (bx (ae (aP (av aw (ae (mV 0) (ae (mV 2) (ao))))) (ae (aP (av aw (ae (mV 0) (ae (mV 2) (ao))))) (ao))))))) (qL 2 (bb (gN 9) (bb (gN 10) (dY))))) (il (dG lB (mV 9) (mV 10)) (nF (xQ dE (mV 4) (dZ (ae (mV 9) (ae (mV 10) (ao)))))) (cK))
def fS:cJ:=aH (bH 2 (aX bK (mK (.int 1)) (aP (av aw (ae (mV 0) (ae (av minD (ae (mK (.int 7)) (ae (aX bK (mV 1) (mK (.int 1))) (ao)))) (ao))))))) (aH (bH 3 (aP (av bM (ae (mV 0) (ae (mV 2) (ao)))))) (aH (bH 4 (bx (ao))) (aH (jB (Hw (mK (.int 1)) (mV 2)) (gN 5) bX) (aH (jB (oJ (aP (av aw (ae (mV 0) (ae (mK (.int 4)) (ao)))))) (gN 8) bY) (bp (dZ (ae (mV 2) (ae (b9 cY (aP (b9 bZ (aP (nE (aP (b9 iK (mV 4))) (oN) (oS (mV 1))))))) (ao)))))))))
def cf:List D->M D:=kF 11 2 fS
def jb:kb:=lH
def jc:TM:=aP (av kL (ae (mV 1) (ae (mV 0) (ao))))
def qS:cJ:=aH (il (dq (bV (aP (av dH (ae (mV 0) (ao)))))) (bp (mK (.bl c_))) (cK)) (aH (kB (mV 0) (fE 2 (bb (gN 1) (bb (gN 2) (dY))))) (aH (il (oH (dq (bV (aP (av cU (ae (mV 1) (ao)))))) (oH (dq (xR G4 G4 (mK (.int 0)) (mV 1) (mK (.int 14)))) (dq (bV (fu (mV 2) "tuple"))))) (bp (mK (.bl c_))) (cK)) (bp (qB (b9 mR (aP (cq (iq (mV 2)) (gN 0) jb jc [none,ar 1]))) (aP (av fZ (ae (mV 2) (ao))))))))
def jC:List D->M D:=kF 3 1 qS
def fH:kb:=dG ib (mV 0) (dZ (ae (mV 1) (ae (mV 2) (ao))))
def fJ:TM:=mV 0
def jT:cJ:=aH (bH 2 (aP (av aw (ae (mV 0) (ae (mK (.int 6)) (ao)))))) (aH (il (dG lB (mV 2) (mK (.int 3))) (aH (bH 3 (aX Al (mV 1) (aX bA (aP (bx (aN (mK (.int 0)) (aN (mK (.int 0)) (aN (mK (.int 1)) (aN (mK (.int 2)) (aN (mK (.int 3)) (aN (mV 1) (ao))))))))) (aP (av aw (ae (mV 0) (ae (mK (.int 6)) (ao)))))))) (bp (aP (av dg (ae (mV 0) (ae (av maxD (ae (mK (.int 0)) (ae (mV 3) (ao)))) (ae (aX bK (mV 2) (mK (.int 1))) (ao)))))))) (cK)) (aH (bH 4 (aP (av f7 (ae (aP (av cf (ae (mV 0) (ae (mV 1) (ao))))) (ao))))) (aH (bH 4 (aP (av cM (ae (mV 4) (ae (aP (av bM (ae (mV 0) (ae (aX bA (mV 4) (mK (.int 0))) (ao))))) (ao)))))) (aH (il (oH (dG rR (mV 2) (mK (.int 3))) (dG lB (aX bA (mV 4) (mK (.int 0))) (mK (.int 2)))) (bp (mV 4)) (cK)) (aH (kB (aP (b9 bZ (aP (bx (ae (aP (av aw (ae (mV 0) (ae (aX bA (mV 4) (mK (.int 0))) (ao))))) (ae (aP (av aw (ae (mV 0) (ae (aX bA (mV 4) (mK (.int 0))) (ao))))) (ao))))))) (qL 2 (bb (gN 5) (bb (gN 6) (dY))))) (aH (bH 7 (cq (iq (aX bA (mV 4) (mK (.int 1)))) (gN 0) fH fJ [none,ar 5,ar 6])) (aH (il (AH (dG lB (mV 5) (mV 6)) (dG rR (b9 cz (mV 7)) (b9 cz (aX bA (mV 4) (mK (.int 1)))))) (nF (xQ dE (mV 7) (dZ (ae (mV 5) (ae (mV 6) (ao)))))) (cK)) (bp (dZ (ae (aX bA (mV 4) (mK (.int 0))) (ae (b9 cY (aP (b9 bZ (mV 7)))) (ao))))))))))))
def gM:List D->M D:=kF 8 2 jT
def qT:cJ:=il (dq (bV (aP (av jC (ae (mV 0) (ao)))))) (CS "NoWeb" (ae (mK (.str "this is no web")) (ao))) (cK)
def cH:List D->M D:=oA 1 1 qT
def jd:cJ:=aH (nF (aP (av cH (ae (mV 0) (ao))))) (il (dG FP (aX bA (mV 0) (mK (.int 0))) (mV 1)) (uH (ae (aX bA (mV 0) (mK (.int 0))) (ae (mV 1) (ao)))) (cK))
def cD:List D->M D:=oA 2 2 jd
def lL:cJ:=aH (nF (aP (av cH (ae (mV 0) (ao))))) (aH (nF (aP (av cH (ae (mV 1) (ao))))) (aH (nF (aP (av cD (ae (mV 0) (ae (mK (.int 7)) (ao)))))) (nF (aP (av cD (ae (mV 1) (ae (mK (.int 7)) (ao))))))))
def bQ:List D->M D:=oA 2 2 lL
def gv(F:List D->M D):kb:=lH
def gw(F:List D->M D):TM:=aP (av F (ae (mV 0) (ae (mV 1) (ao))))
def dh(F:List D->M D):cJ:=aH (il (bV (JB (mV 1) "tuple" "list")) (aH (il (oH (dG ib (fu (mV 0) "tuple") (fu (mV 1) "tuple")) (dG ib (fu (mV 0) "list") (fu (mV 1) "list"))) (bp (mK (.bl c_))) (cK)) (aH (il (dG ib (b9 cz (mV 0)) (b9 cz (mV 1))) (bp (mK (.bl c_))) (cK)) (bp (b9 mR (aP (cq (sU (mV 0) (mV 1)) (fE 2 (bb (gN 0) (bb (gN 1) (dY)))) (gv F) (gw F) [none,none])))))) (cK)) (bp (qB (aX rR (mV 0) (mV 1)) (aX rR (fu (mV 0) "bool") (fu (mV 1) "bool"))))
def bS:Nat->List D->M D
 |0=>fun _=>M.fail
 |n+1=>kF 2 2 (dh (bS n))
def di:List D->M D:=bS 6
def gx:kb:=lH
def gy:TM:=aP (av eY (ae (mV 1) (ae (mV 0) (ao))))
def iR:kb:=lH
def iS:TM:=aP (av iF (aN (mV 2) (aN (mV 3) (aN (aP (nE (mV 4) (oN) (oS (mV 0)))) (aN (mV 1) (ao))))))
def oX:cJ:=aH (nF (aP (av bQ (ae (mV 0) (ae (mV 1) (ao)))))) (aH (bH 3 (aX bA (mV 0) (mK (.int 0)))) (aH (il (oH (dG ib (aX bA (mV 1) (mK (.int 0))) (mV 3)) (oH (dq (bV (fu (mV 2) "tuple"))) (dG ib (b9 cz (mV 2)) (mV 3)))) (bp (mK (.bl c_))) (cK)) (aH (il (dq (bV (b9 mR (aP (ER (cq (iq (mV 2)) (gN 0) gx gy [none,ar 3])))))) (bp (mK (.bl c_))) (cK)) (bp (b9 mR (aP (ER (cq (FV (mV 2)) (fE 2 (bb (gN 0) (bb (gN 1) (dY)))) iR iS [none,none,ar 0,ar 1,ar 2]))))))))
def cO:List D->M D:=oA 4 3 oX
def qU:cJ:=il (dq (bV (aP (av cO (ae (mV 0) (ae (mV 1) (ae (mV 2) (ao)))))))) (CS "NoMap" (ae (mK (.str "this is no map of the one web to the other")) (ao))) (cK)
def fV:List D->M D:=oA 3 3 qU
def jU:kb:=lH
def jV:TM:=AU kH (aX bA (mV 1) (mK (.int 1))) (mV 0)
def sY:cJ:=aH (nF (aP (av fV (ae (mV 0) (ae (mV 1) (ae (mV 2) (ao))))))) (bp (b9 cY (aP (ER (cq (iq (aP (av cV (ae (mV 0) (ae (mV 2) (ao)))))) (gN 0) jU jV [none,ar 1])))))
def cw:List D->M D:=oA 3 3 sY
def eO:kb:=bV (aX bA (mV 1) (mV 0))
def eP:TM:=mV 0
def gz(fv:D)(cc:M D):cJ:=aH (bH 1 (mK .non)) (aH (vZ 0 2 1 fv cc) (aH (bH 3 (aP (bx (ae (fG (mV 1) "NoWeb") (ae (fG (mV 1) "NoPlace") (ae (fG (mV 1) "NoPlaces") (ao))))))) (aH (bH 3 (aP (aX bK (mV 3) (aP (bx (ae (fG (mV 1) "NoSharing") (ae (fG (mV 1) "NoRoot") (ae (fG (mV 1) "NoNumber") (ao))))))))) (aH (bH 3 (aP (aX bK (mV 3) (aP (bx (ae (fG (mV 1) "NotJoined") (ae (fG (mV 1) "NoTie") (ae (fG (mV 1) "NoText") (ao))))))))) (aH (bH 3 (aP (aX bK (mV 3) (aP (bx (ae (fG (mV 1) "NoLine") (ae (fG (mV 1) "NoDeed") (ae (fG (mV 1) "TooGreat") (ao))))))))) (aH (bH 3 (aP (aX bK (mV 3) (aP (bx (ae (fG (mV 1) "NoMap") (ao))))))) (aH (il (dq (bV (CQ (mV 1)))) (bp (mK .non)) (cK)) (bp (aP (cq (oJ (mK (.int 13))) (gN 0) eO eP [none,ar 3]))))))))))
def bf:D->M D->List D->M D:=fun fv cc es=>oA 4 1 (gz fv cc) (fv::es)
def aW:M D->List D->M D:=bf (.fn 0 0 "" [] [])
def fB(fv:D)(cc:M D):cJ:=aH (bH 3 (mK .non)) (aH (oR "TooGreat" 0 4 3 fv cc) (aH (il (oH (dG (Js id) (mV 3) (mK .non)) (dG ib (aP (m9 0 fv (ao) cc aW)) (aP (bx (ae (mK (.int 11)) (ao)))))) (bp (mK (.bl c_))) (cK)) (bp (aP (av di (ae (aP (bx (ae (kG c_ (mV 3)) (ae (kG bc (mV 3)) (ao))))) (ae (aP (bx (ae (mV 1) (ae (mV 2) (ao))))) (ao))))))))
def bz:D->M D->List D->M D:=fun fv cc es=>oA 5 3 (fB fv cc) (fv::es)
def bN:M D->List D->M D:=bz (.fn 0 0 "" [] [])
def du:TM:=aP (av cw (ae (mV 0) (ae (mV 1) (ae (mK .non) (ao)))))
def dv:TM:=aP (av cw (ae (mV 0) (ae (mV 1) (ae (mK .non) (ao)))))
def dw:TM:=aP (av cw (ae (mV 0) (ae (mV 1) (ae (mK .non) (ao)))))
def dy:TM:=aP (av cw (ae (mV 0) (ae (mV 1) (ae (mK .non) (ao)))))
def eJ:cJ:=aH (bH 2 (aP (av eZ (ae (mV 0) (ao))))) (aH (uD 3 4 (ae (dZ (ae (aX bK (mK (.int 8)) (aP (av aw (ae (mV 0) (ae (mK (.int 3)) (ao)))))) (ae (mK (.tup [])) (ao)))) (ae (dZ (ae (aX bK (mK (.int 11)) (aP (av aw (ae (mV 0) (ae (mK (.int 4)) (ao)))))) (ae (mK (.tup [])) (ao)))) (ao)))) (aH (il (dG ib (aP (qH [2,3] (ao) du aW)) (aP (bx (ae (mK (.int 0)) (ao))))) (bp (mK (.bl c_))) (cK)) (aH (il (dG ib (aP (qH [3,2] (ao) dv aW)) (aP (bx (ae (mK (.int 0)) (ao))))) (bp (mK (.bl c_))) (cK)) (aH (il (dq (bV (aP (qH [3,4] (ae (aX bA (mV 3) (mK (.int 0))) (ae (mK (.int 7)) (ao))) dw bN)))) (bp (mK (.bl c_))) (cK)) (bp (aP (qH [1,4] (ae (aX bA (mV 4) (mK (.int 0))) (ae (mK (.int 7)) (ao))) dy bN)))))))
def bt:List D->M D:=kF 5 2 eJ
def ni:kb:=lH
def nj:TM:=aP (av c8 (ae (mV 1) (ae (mV 2) (ao))))
def qV:TM:=aP (av cw (ae (mV 0) (ae (mV 1) (ae (mV 2) (ao)))))
def nk:cJ:=il (dq (bV (aP (av eE (ae (mV 3) (ae (mV 5) (ae (mV 7) (ao)))))))) (il (dG ib (aP (qH [3,5,7] (ao) qV aW)) (aP (bx (ae (mK (.int 12)) (ao))))) (bp (mK (.bl c_))) (cK)) (il (dq (bV (aP (av di (ae (aP (av cw (ae (mV 3) (ae (mV 5) (ae (mV 7) (ao)))))) (ae (aP (av dJ (ae (mV 3) (ae (mV 5) (ae (mV 7) (ao)))))) (ao))))))) (bp (mK (.bl c_))) (cK))
def kM:cJ:=aH (bH 2 (av gu (ae (mV 0) (ae (mV 1) (ao))))) (aH (bH 3 (aP (av gM (ae (mV 2) (ae (mK (.int 7)) (ao)))))) (aH (bH 4 (aP (av bM (ae (mV 2) (ae (aX bA (mV 3) (mK (.int 0))) (ao)))))) (aH (bH 5 (aP (av cM (ae (mV 3) (ae (mV 4) (ao)))))) (aH (bH 6 (aX bK (aP (bx (ae (mV 4) (ao)))) (aP (cq (oJ (mK (.int 4))) (gN 0) ni nj [none,ar 2,ar 4])))) (aH (il (dG FP (aX bA (mV 3) (mK (.int 0))) (mK (.int 0))) (nF (xQ dE (mV 6) (aP (aX bK (aP (nE (mV 4) (oS (mK (.int 1))) (oN))) (aP (nE (mV 4) (oN) (oS (mK (.int 1))))))))) (cK)) (aH (jB (iq (mV 6)) (gN 7) nk) (il (dq (bV (aP (av bt (ae (mV 2) (ae (mV 3) (ao))))))) (bp (mK (.bl c_))) (cK))))))))
def Df:cJ:=aH (jB (oJ (av maxD (ae (mK (.int 1)) (ae (av minD (ae (b9 cz (mV 0)) (ae (mK (.int 6)) (ao)))) (ao))))) (gN 1) kM) (bp (mK (.bl bc)))
def sZ:List D->M D:=kF 8 1 Df
theorem qW:2<=lim:=by unfold lim;omega
theorem Lc:3<=lim:=by unfold lim;omega
theorem FY:Ej (ar d::r) 0=a_ d:=rfl
theorem FZ:Ej (o0::ar d::r) 1=a_ d:=rfl
theorem F4:Ej (o0::o1::ar d::r) 2=a_ d:=rfl
theorem F5:Ej (o0::o1::o2::ar d::r) 3=a_ d:=rfl
theorem je:ji S n (.int i)=ar (.int i):=by cases n<;>rfl
theorem nY:ji S n (.bl b)=ar (.bool b):=by cases n<;>rfl
theorem eq_int{Q:D->aF->Prop}:runs (rR (.int a) (.int b)) S Q↔Q (.bl (decide (a=b))) S:=by
 unfold rR;rw[gU je je];have:gc (.int a) (.int b)=decide (a=b):=by
  simp only[gc];rw[Oy];simp
 rw[this]
theorem wm(l:List Bool):boolsOf (l.map D.bl)=ar l:=by
 induction l with
 |nil=>rfl
 |cons b l ih=>simp[boolsOf,ih]
theorem cB:(S++[xs])[S.length]? =ar xs:=by simp
theorem F6{Q:D->aF->Prop}:runs (rR (.bl a) (.bl b)) S Q↔Q (.bl (a==b)) S:=by
 unfold rR;rw[gU nY nY];have:gc (.bool a) (.bool b)=(a==b):=by cases a<;>cases b<;>simp[gc]
 rw[this]
theorem AV{α:Type}(a:α):o9 (a_ a:M α)=a_ a:=rfl
theorem zw{α Z:Type}{c:Prop} [Decidable c]{a b:M α}{f:α->M Z}:((if c then a else b)>>=f)=if c then a>>=f else b>>=f:=by split<;>rfl
theorem e9{α:Type}(l:List α):l.filter (fun _=>bc)=l:=List.filter_eq_self.mpr fun _ _=>rfl
theorem dW{m:cJ}{ds:List D}(h:m (ds.map ar++l3 (N - n) none)=a_ o)(Y:outD o=a_ d)(Z:ds.length=n:=by rfl):kF N n m ds=a_ d:=by
 unfold kF oA;rw[if_pos Z];show(o9 (m _)>>=outD)=_;rw[h,AV,ay,Y]
theorem yb{m n:TM}(Y:m ρ=a_ x)(Z:n ρ=a_ y):Hw m n ρ=kZ [x,y]:=by
 have:ae m (ae n ao) ρ=a_ [x,y]:=by unfold ae;rw[Y,ay,Z,ay];rfl
 unfold Hw;rw[this,ay]
theorem nZ{m:TM}(Z:m ρ=a_ x):oJ m ρ=l9 [x]:=by
 have:ae m ao ρ=a_ [x]:=by unfold ae;rw[Z,ay];rfl
 unfold oJ;rw[this,ay]
theorem HK(h: -(2 ^ 62)<=i/\i<2 ^ 62/\ -(2 ^ 62)<=j/\j<2 ^ 62):kZ [.int i,.int j]=a_ ⟨bG i (j - i).toNat,.none⟩:=by unfold kZ;exact if_pos h
theorem yc(h: -(2 ^ 62)<=j/\j<2 ^ 62):l9 [.int j]=a_ ⟨bG 0 j.toNat,.none⟩:=by unfold l9;exact if_pos h
theorem cQ{f:D->D->M D}{m n:TM}(Y:m ρ=a_ x)(Z:n ρ=a_ y):aX f m n ρ=f x y:=by unfold aX;rw[Y,ay,Z,ay]
theorem eh{f:List D->M D}{m:TM}(h:m ρ=a_ x):b9 f m ρ=f [x]:=by
 have:ae m ao ρ=a_ [x]:=by unfold ae;rw[h,ay];rfl
 unfold b9 av;rw[this,ay]
theorem fe{m:TM}(h:m ρ=a_ x):bp m ρ=a_ (.ret x):=by unfold bp;rw[h];rfl
theorem jW(bs:List Bool):cG 0 (bs.map D.bl)=true:=by
 induction bs with
 |nil=>rfl
 |cons x r ih=>rw[Mh];unfold cG;rw[ih];unfold fU;rfl
theorem iT{mi:aQ->M Iter}{g:nD}{t:kb}{m:TM}(R:aQ->Prop)(q:D->Bool)(f:D->D)(hi:mi ρ=a_ ⟨its,.none⟩)(Z:its.length<=lim)(W:R (j9 js ρ))(Y:∀d∈its,∀ ρ,R ρ->∃ ρ1,g d ρ=a_ ρ1/\R ρ1/\t ρ1=a_ (q d)/\(q d=bc->m ρ1=a_ (f d)))
  (X:cG 0 ((its.filter q).map f)=bc):aP (cq mi g t m js) ρ=a_ (.fz ((its.filter q).map f)):=by
 have e:cq mi g t m js ρ=bJ ((its.filter q).map f):=by
  unfold cq;rw[hi,ay,uJ R q f Z W Y,ay]
 unfold aP;rw[e];exact cL X (by rw[LR];exact Ma (Ny _ _) Z)
section
variable {m n:cJ}{ρ ρ':aQ}{e e1 e2:TM}{x y d:D}{t:kb}{b:Bool}{o:Out}{N k:Nat}{ds:List D}{F:List D->M D}
theorem aZ(h:m ρ=a_ (.nx ρ')):aH m n ρ=n ρ':=by unfold aH;rw[h];rfl
theorem cW(h:m ρ=a_ (.ret d)):aH m n ρ=a_ (.ret d):=by unfold aH;rw[h];rfl
theorem gO(h:m ρ=M.raise x):aH m n ρ=M.raise x:=by unfold aH;rw[h];rfl
theorem lM(h:e ρ=a_ x):nF e ρ=a_ (.nx ρ):=by unfold nF;rw[h];rfl
theorem iU(h:e ρ=M.raise x):nF e ρ=M.raise x:=by unfold nF;rw[h];rfl
theorem n4(h:e ρ=a_ x):bH i e ρ=a_ (.nx (ρ.set i (ar x))):=by unfold bH;rw[h];rfl
theorem bg(h:t ρ=a_ b):il t m n ρ=if b=bc then m ρ else n ρ:=by unfold il;rw[h];rfl
theorem cm{f:D->D->M D}(Y:e1 ρ=a_ x)(Z:e2 ρ=a_ y)(h:f x y=a_ (.bl b)):dG f e1 e2 ρ=a_ b:=by
 unfold dG;rw[Y,ay,Z,ay,h];rfl
theorem g0(h:e ρ=a_ x):av F (ae e ao) ρ=F [x]:=eh h
theorem j7(h:e ρ=a_ x):aP e ρ=a_ x:=by unfold aP;rw[h];exact E2
theorem DV(h:e ρ=M.raise x):aP e ρ=M.raise x:=by unfold aP;rw[h];exact C8
theorem jl(h:m (ds.map ar++l3 (N - k) none)=a_ o)(Z:outD o=a_ d)(Y:ds.length=k:=by rfl):oA N k m ds=a_ d:=by
 unfold oA;rw[if_pos Y,h,ay,Z]
theorem dM(h:m (ds.map ar++l3 (N - k) none)=M.raise x)(Z:ds.length=k:=by rfl):oA N k m ds=M.raise x:=by
 unfold oA;rw[if_pos Z,h];rfl
end
theorem tj:o9 (bJ us)=bJ us:=by
 funext S;unfold o9 bJ;by_cases h:us.length<=lim
 ·rw[if_pos h]
 ·rw[if_neg h]
theorem wo{mi:aQ->M Iter}{g:nD}{t:kb}{m:TM}(R:aQ->Prop)(q:D->Bool)(f:D->D)(hi:mi ρ=a_ ⟨its,.none⟩)(Z:its.length<=lim)(W:R (j9 js ρ))(Y:∀d∈its,∀ ρ,R ρ->∃ ρ1,g d ρ=a_ ρ1/\R ρ1/\t ρ1=a_ (q d)/\(q d=bc->m ρ1=a_ (f d)))
  (X:cG 0 ((its.filter q).map f)=bc):aP (ER (cq mi g t m js)) ρ=a_ (.fz ((its.filter q).map f)):=by
 have e:ER (cq mi g t m js) ρ=bJ ((its.filter q).map f):=by
  unfold ER cq;rw[hi,ay,uJ R q f Z W Y,ay,tj]
 unfold aP;rw[e];exact cL X (by rw[LR];exact Ma (Ny _ _) Z)
theorem call2{F:List D->M D}{e1 e2:TM}(Y:e1 ρ=a_ x)(Z:e2 ρ=a_ y):av F (ae e1 (ae e2 ao)) ρ=F [x,y]:=by
 have:ae e1 (ae e2 ao) ρ=a_ [x,y]:=by unfold ae;rw[Y,ay,Z,ay];rfl
 unfold av;rw[this,ay]
theorem g9{e:TM}(h:e ρ=a_ (.bl b)):bV e ρ=a_ b:=by unfold bV;rw[h];rfl
theorem qX{us:List D}(h:us.length<=lim):cY [.fz us]=a_ (.tup us):=by
 show bU us=_;unfold bU;rw[if_pos h]
section
variable {α β:Type}{c:M α}{f:α->M β}{S S1:aF}{a:α}
theorem aO(h:c S=ar (.ok a,S1)):(c>>=f) S=f a S1:=by
 show M.bnd c f S=_;unfold M.bnd;rw[h]
end
section
variable {m n:cJ}{ρ ρ':aQ}{e e1 e2:TM}{x y:D}{S S1 S2:aF}{c:M D}{f:D->List D->M D}{F:List D->M D}
theorem aL(h:m ρ S=ar (.ok (.nx ρ'),S1)):aH m n ρ S=n ρ' S1:=aO h
theorem nq(h:e ρ S=ar (.ok x,S1)):nF e ρ S=ar (.ok (.nx ρ),S1):=aO h
theorem bB(h:e ρ S=ar (.ok x,S1)):bH i e ρ S=ar (.ok (.nx (ρ.set i (ar x))),S1):=aO h
theorem fW(h:e ρ S=ar (.ok x,S1)):bp e ρ S=ar (.ok (.ret x),S1):=aO h
theorem dj{us:List D}(h:us.length<=lim):bJ us S=ar (.ok (.lst S.length),S++[us]):=by unfold bJ;exact if_pos h
theorem cX(h:S[p]? =ar us):getL p S=ar (.ok us,S):=by unfold getL;rw[h];rfl
theorem lp{us:List D}(h:us.length<=lim)(Z:p<S.length):lA p us S=ar (.ok .non,S.set p us):=by unfold lA;exact if_pos ⟨h,Z⟩
theorem jf(h:e ρ S=ar (.ok x,S1)):b9 F e ρ S=F [x] S1:=by
 unfold b9 av;rw[aO (a:=[x]) (S1:=S1)];show(e ρ>>=_) S=_;rw[aO h];rfl
theorem gQ(Y:e1 ρ S=ar (.ok x,S1))(Z:e2 ρ S1=ar (.ok y,S2)):dZ (ae e1 (ae e2 ao)) ρ S=ar (.ok (.tup [x,y]),S2):=by
 unfold dZ;rw[aO (a:=[x,y]) (S1:=S2)]
 ·unfold bU;rw[if_pos (show[x,y].length<=lim from qW)];rfl
 ·show(e1 ρ>>=_) S=_;rw[aO Y];show(((e2 ρ>>=_)>>=_):M (List D)) S1=_;rw[aO (a:=[y]) (S1:=S2)]
  ·rfl
  ·rw[aO Z];rfl
end
theorem gW:eG ⟨its,.none⟩ g b [] ρ=a_ (.nx ρ):=by
 unfold eG;rw[eV];rfl
theorem iV{g:nD}{b:cJ}(h:g d ρ=a_ ρ1)(Z:b ρ1 S=ar (.ok (.nx ρ2),S1)):eG ⟨its,.none⟩ g b (d::ds) ρ S=eG ⟨its,.none⟩ g b ds ρ2 S1:=by
 rw[eG,eV,ay,h,ay,aO Z]
theorem ff{m:cJ}{ds:List D}(h:m (ds.map ar++l3 (N - n) none) S=ar (.ok o,S1))(Y:outD o=a_ d)(Z:ds.length=n:=by rfl):kF N n m ds S=ar (.ok d,S1):=by
 unfold kF oA;rw[if_pos Z,aO (a:=o) (S1:=S1),Y]
 ·rfl
 ·show o9 (m _) S=_;unfold o9;rw[h]
theorem mn{mi:aQ->M Iter}(hi:mi ρ=a_ ⟨its,.none⟩)(h:eG ⟨its,.none⟩ g b its ρ S=ar (.ok o,S1)):jB mi g b ρ S=ar (.ok o,S1):=by
 unfold jB;rw[hi,ay];exact h
theorem LK:rR (.int i) (.int i)=a_ (.bl bc):=bW fun S=>eq_int.mpr ⟨by rw[L8 rfl],rfl⟩
theorem LL:rR (.bl b) (.bl b)=a_ (.bl bc):=bW fun S=>F6.mpr ⟨by rw[beq_self_eq_true],rfl⟩
theorem Ld:ib (.bl b) (.bl b)=a_ (.bl c_):=bW fun S=>by
 unfold ib;refine(gU nY nY).mpr ⟨?_,rfl⟩;cases b<;>rfl
theorem Lr:ib (.int i) (.int i)=a_ (.bl c_):=bW fun S=>by
 unfold ib;refine(gU je je).mpr ⟨?_,rfl⟩;simp[gc]
theorem kN{bs:List Bool}:mR [.fz (bs.map D.bl)]=a_ (.bl (bs.all id)):=by
 show(match boolsOf (bs.map D.bl)with|some bs=>(a_ (D.bl (bs.all id)):M D)|none=>M.fail)=_
 rw[wm]
theorem qY:∀{xs:List D},d∈(xs.zip xs).map (fun p:D×D=>D.tup [p.1,p.2])->∃x∈xs,d= .tup [x,x]
 | x::r,h=>by
  rw[Pd,Mh,Me]at h;rcases h with rfl|h
  ·exact⟨x,.head _,rfl⟩
  ·obtain⟨y,Z,e⟩:=qY h;exact⟨y,.tail _ Z,e⟩
theorem a7{e:TM}{es:aQ->M (List D)}(Z:e ρ=a_ x)(Y:es ρ=a_ ys):ae e es ρ=a_ (x::ys):=by
 unfold ae;rw[Z,ay,Y];rfl
section
variable {e1 e2:TM}{f:D->D->M D}{x y:D}{S S1 S2:aF}{ρ:aQ}{F:List D->M D}
theorem hU(Y:e1 ρ S=ar (.ok x,S1))(Z:e2 ρ S1=ar (.ok y,S2)):aX f e1 e2 ρ S=f x y S2:=by
 unfold aX;rw[aO Y,aO Z]
theorem bP{es:aQ->M (List D)}(Y:e1 ρ S=ar (.ok x,S1))(Z:es ρ S1=ar (.ok ys,S2)):ae e1 es ρ S=ar (.ok (x::ys),S2):=by
 unfold ae;rw[aO Y,aO Z];rfl
theorem Dg(h:S[p]? =ar us)(Z:kd us j=ar x):bA (.lst p) (.int j) S=ar (.ok x,S):=by
 show(getL p>>=fun xs=>match kd xs j with|some d=>(a_ d:M D)|none=>M.fail) S=_
 rw[aO (cX h),Z];rfl
theorem jX{es:aQ->M (List D)}(h:es ρ S=ar (.ok ys,S1))(Z:ys.length<=lim):bx es ρ S=ar (.ok (.lst S1.length),S1++[ys]):=by
 unfold bx;rw[aO h];exact dj Z
theorem uK(X:S[a]? =ar xs)(Z:S[b]? =ar ys)(Y:(xs++ys).length<=lim):bK (.lst a) (.lst b) S=ar (.ok (.lst S.length),S++[xs++ys]):=by
 show(getL a>>=fun xs=>getL b>>=fun ys=>bJ (xs++ys)) S=_;rw[aO (cX X),aO (cX Z)];exact dj Y
end
def ig:D->Bool
 | .int _=>bc
 |_=>c_
abbrev Dh(d:D):Prop:=vG d=bc
def qZ:D->Bool
 | .tup [_,_]=>bc
 |_=>c_
def cC(many:Int):D->Bool
 | .int i=>decide (0<=i) && decide (i<many)
 |_=>c_
def kc(many:Int):D->Bool
 | .tup [a,b]=>cC many a && (cC many b && match a,b with| .int i,.int j=>decide (i<j)|_,_=>c_)
 |_=>c_
def Le(d:D):Prop:=Dh d/\∀ds,d= .tup ds->∀x∈ds,Dh x
theorem jD(h:cC many d=bc):∃i,d= .int i/\0<=i/\i<many:=by
 cases d with
 |int i=>exact⟨i,rfl,by simpa [cC]using h⟩
 |_=>cases h
def uL:D->D->Bool
 | .tup xs,.tup ys=>match intsOf xs,intsOf ys with
  |some a,ar b=>HT.lexLt a b
  |_,_=>c_
 |_,_=>c_
def uM:List D->Bool
 |a::b::r=>uL a b && uM (b::r)
 |_=>bc
def zx(d:D):Prop:=∃ds ns,d= .tup ds/\intsOf ds=ar ns
theorem zy:∀l:List D,((l.zip (l.drop 1)).map fun p=>uL p.1 p.2).all id=uM l
 |[]=>rfl
 |[_]=>rfl
 |a::b::r=>by
  have:=zy (b::r);simp only[List.drop_succ_cons,Qj,List.zip_cons_cons,H_,Qy,id]at this⊢;rw[uM, <-this]
theorem Lf(l:List D):S3.cutD l (ar 1) none=l.drop 1:=by
 unfold S3.cutD HT.sIx;cases l with
 |nil=>rfl
 |cons a r=>simp
def Kf(d:D):Prop:=Dh d/\∀ds,d= .tup ds->∀x∈ds,Dh x/\∀ts,x= .tup ts->∀t∈ts,Le t
def i3:D->Bool
 | .tup [.int many,.tup ties]=>decide (0<=many) && (decide (many<=14) && (ties.all (kc many) && uM ties))
 |_=>c_
theorem Fb(h:kc many d=bc):∃i j,d= .tup [.int i,.int j]/\0<=i/\i<j/\j<many:=by
 unfold kc at h;split at h
 ·next a b=>
  simp only[h_]at h;obtain⟨X,Y,Z⟩:=h;obtain⟨i,rfl,W,S⟩:=jD X;obtain⟨j,rfl,T,U⟩:=jD Y;simp only[decide_eq_true_eq]at Z;exact⟨i,j,rfl,W,Z,U⟩
 ·cases h
theorem AW(h:kc many d=bc):zx d:=by
 obtain⟨i,j,rfl,_⟩:=Fb h;exact⟨_,[i,j],rfl,rfl⟩
section
variable {many:Int}{d:D}{ρ:aQ}{e1 e2:TM}{b:Bool}{y:D}
theorem and_eq(X:e1 ρ=a_ (.bl b))(Z:b=bc->e2 ρ=a_ y)(Y:b=c_->y= .bl c_):qB e1 e2 ρ=a_ y:=by
 unfold qB;rw[X];cases b with
 |true=>exact Z rfl
 |false=>rw[Y rfl];rfl
theorem Lg{a b:Int}:rR (.int a) (.int b)=a_ (.bl (decide (a=b))):=bW fun S=>eq_int.mpr ⟨rfl,rfl⟩
theorem uN(h:Dh d):cU [d]=a_ (.bl (ig d)):=by
 cases d<;>first|rfl|cases h
theorem uO(h:Dh d):dH [d]=a_ (.bl (qZ d)):=by
 cases d with
 |tup ds=>
  refine dW (fe (and_eq (b:=bc) rfl (fun _=>(cQ (y:=.int 2) (eh (x:=.tup ds) rfl) rfl).trans Lg) (fun e=>by cases e))) ?_
  show a_ (D.bl (decide ((ds.length:Int)=2)))=_
  match ds with
  |[]=>rfl
  |[_]=>rfl
  |[_,_]=>rfl
  |_::_::_::r=>rw[Mj (by simp only[q_];omega)];rfl
 |_=>first|rfl|cases h
theorem uP(h:Dh d):eY [.int many,d]=a_ (.bl (cC many d)):=by
 cases d with
 |int i=>
  refine dW (fe (and_eq (b:=bc) ((g0 rfl).trans (uN h)) (fun _=>?_) (fun e=>by cases e))) rfl
  show(if decide (0<=i)=bc then (a_ (D.bl (decide (i<many))):M D)else a_ (.bl c_))=a_ (.bl (decide (0<=i) && decide (i<many)));by_cases h0:0<=i
  ·rw[if_pos (L8 h0),L8 h0,M4]
  ·rw[if_neg (by rw[Mu];exact h0),Mj h0,M0]
 |_=>first|rfl|cases h
theorem zz(h:qZ d=bc):∃a b,d= .tup [a,b]:=by
 unfold qZ at h;split at h
 ·exact⟨_,_,rfl⟩
 ·cases h
theorem uQ{b:D}:kc many (.tup [a,b])=(cC many a && (cC many b && match a,b with| .int i,.int j=>decide (i<j)|_,_=>c_)):=rfl
theorem HL(h:Le d):kL [.int many,d]=a_ (.bl (kc many d)):=by
 by_cases hp:qZ d=bc
 ·obtain⟨a,b,rfl⟩:=zz hp;have W:Dh a:=h.2 _ rfl a (.head _);have X:Dh b:=h.2 _ rfl b (.tail _ (.head _));refine dW (o:=.ret (.bl (kc many (.tup [a,b])))) ?_ rfl;unfold qR;have Y:dq (bV (av dH (ae (mV 1) ao))) [ar (.int many),ar (.tup [a,b]),none,none]=a_ false:=by
   show(bV _ _>>=_)=_;rw[g9 ((g0 rfl).trans (uO h.1))];rfl
  refine(aZ (ρ':=[ar (.int many),ar (.tup [a,b]),none,none]) ((bg Y).trans (if_neg (by decide)))).trans ((aZ (ρ':=[ar (.int many),ar (.tup [a,b]),ar a,ar b]) rfl).trans (fe ?_))
  refine and_eq (b:=cC many a) ((call2 rfl rfl).trans (uP W)) (fun k1=>and_eq (b:=cC many b) ((call2 rfl rfl).trans (uP X)) (fun k2=>?_) fun k2=>?_) fun k1=>?_
  ·obtain⟨i,rfl,_⟩:=jD k1;obtain⟨j,rfl,_⟩:=jD k2;rw[uQ,k1,k2];rfl
  ·rw[uQ,k2,M0,Pi]
  ·rw[uQ,k1,M0]
 ·have Z:qZ d=false:=by rw[<-Og];exact hp
  have Y:dq (bV (av dH (ae (mV 1) ao))) [ar (.int many),ar d,none,none]=a_ true:=by
   show(bV _ _>>=_)=_;rw[g9 ((g0 rfl).trans (uO h.1)),Z];rfl
  refine(dW (o:=.ret (.bl c_)) (cW ((bg Y).trans (if_pos rfl))) rfl).trans ?_;unfold kc;split
  ·cases hp rfl
  ·rfl
theorem HM{a b:D}(Y:zx a)(Z:zx b):lB a b=a_ (.bl (uL a b)):=by
 obtain⟨xs,ns,rfl,e1⟩:=Y;obtain⟨ys,ms,rfl,e2⟩:=Z;simp only[lB,e1,e2,uL]
def Ls:D->D
 | .tup [a,b]=>.bl (uL a b)
 |_=>.non
theorem Di(h:∀t∈ts,zx t)(X:ts.length<=1000):fZ [.tup ts]=a_ (.bl (uM ts)):=by
 have em:(((ts.zip (ts.drop 1)).map fun p:D×D=>D.tup [p.1,p.2]).filter fun _=>bc).map Ls=((ts.zip (ts.drop 1)).map fun p=>uL p.1 p.2).map D.bl:=by
  rw[e9,My,My];rfl
 have hs:aP (nE (mV 0) (oS (mK (.int 1))) oN) [ar (.tup ts)]=a_ (.tup (ts.drop 1)):=by
  refine j7 (?_ :bU (S3.cutD ts (ar 1) none)=_);rw[Lf];unfold bU;exact if_pos (by rw[PR];unfold lim;omega)
 have hi:sU (mV 0) (aP (nE (mV 0) (oS (mK (.int 1))) oN)) [ar (.tup ts)]=a_ ⟨(ts.zip (ts.drop 1)).map fun p:D×D=>D.tup [p.1,p.2],.none⟩:=by
  unfold sU;rw[a7 (x:=.tup ts) rfl (a7 hs rfl)];rfl
 have Z:=iT (g:=fE 2 (bb (gN 0) (bb (gN 1) dY))) (t:=iO) (m:=iP) (js:=[none,none]) (fun ρ=>∃x y,ρ=[x,y]) (fun _=>bc) Ls hi (by rw[LR,P6];unfold lim;omega) ⟨none,none,rfl⟩
  (fun d hd ρ ⟨x,y,hρ⟩=>by
   subst hρ;obtain⟨⟨a,b⟩,Y,rfl⟩:=Mp.mp hd;exact⟨_,rfl,⟨_,_,rfl⟩,rfl,fun _=>(cQ (x:=a) (y:=b) rfl rfl).trans (HM (h a (Oq Y).1) (h b (List.mem_of_mem_drop (Oq Y).2)))⟩) (by rw[em];exact jW _)
 rw[em]at Z;refine dW (fe ((eh Z).trans kN)) ?_;rw[zy];rfl
theorem HN(h:Kf d)(U:∀m ts,d= .tup [m,.tup ts]->ts.length<=1000):jC [d]=a_ (.bl (i3 d)):=by
 by_cases hp:qZ d=bc
 ·obtain⟨a,t,rfl⟩:=zz hp;obtain⟨N,_⟩:=h.2 _ rfl a (.head _);obtain⟨R,O⟩:=h.2 _ rfl t (.tail _ (.head _));refine dW (o:=.ret (.bl (i3 (.tup [a,t])))) ?_ rfl;unfold qS;have S:dq (bV (aP (av dH (ae (mV 0) ao)))) [ar (.tup [a,t]),none,none]=a_ false:=by
   show(bV _ _>>=_)=_;rw[g9 (j7 ((g0 rfl).trans (uO h.1)))];rfl
  refine(aZ (ρ':=[ar (.tup [a,t]),none,none]) ((bg S).trans (if_neg (by decide)))).trans ((aZ (ρ':=[ar (.tup [a,t]),ar a,ar t]) rfl).trans ?_)
  have hw:dq (bV (aP (av cU (ae (mV 1) ao)))) [ar (.tup [a,t]),ar a,ar t]=a_ (!ig a):=by
   show(bV _ _>>=_)=_;rw[g9 (j7 ((g0 rfl).trans (uN N)))];rfl
  have X:∀{p q:kb} {b:Bool} {ρ:aQ},p ρ=a_ b->oH p q ρ=if b=bc then a_ bc else q ρ:=fun{p q b ρ} e=>by
   show(p ρ>>=_)=_;rw[e];rfl
  have no:∀{q:kb},oH (dq (bV (aP (av cU (ae (mV 1) ao))))) q [ar (.tup [a,t]),ar a,ar t]=a_ bc->aH (il (oH (dq (bV (aP (av cU (ae (mV 1) ao))))) q) (bp (mK (.bl c_))) cK) (bp (qB (b9 mR (aP (cq (iq (mV 2)) (gN 0) jb jc [none,ar 1]))) (aP (av fZ (ae (mV 2) ao))))) [ar (.tup [a,t]),ar a,ar t]=a_ (.ret (.bl c_)):=fun e=>cW ((bg e).trans (if_pos rfl));by_cases ew:ig a=bc
  ·cases a with
   | int many=>
    rw[ew]at hw;have W:dq (xR G4 G4 (mK (.int 0)) (mV 1) (mK (.int 14))) [ar (.tup [.int many,t]),ar (.int many),ar t]=a_ (!(decide (0<=many) && decide (many<=14))):=by
     show(((if decide (0<=many)=bc then (a_ (D.bl (decide (many<=14))):M D)else a_ (.bl c_))>>=lE)>>=_)=_;by_cases h0:0<=many
     ·rw[if_pos (L8 h0),L8 h0,M4];rfl
     ·rw[if_neg (by rw[Mu];exact h0),Mj h0,M0];rfl
    by_cases hr:(decide (0<=many) && decide (many<=14))=bc
    ·rw [hr]at W;cases t with
     | tup ts=>
      have Q:=U _ ts rfl;have L:oH (dq (bV (aP (av cU (ae (mV 1) ao))))) (oH (dq (xR G4 G4 (mK (.int 0)) (mV 1) (mK (.int 14)))) (dq (bV (fu (mV 2) "tuple")))) [ar (.tup [.int many,.tup ts]),ar (.int many),ar (.tup ts)]=a_ false:=by
       rw[X hw,if_neg (by decide),X W,if_neg (by decide)];rfl
      refine(aZ ((bg L).trans (if_neg (by decide)))).trans (fe ?_)
      have em:(ts.filter fun _=>bc).map (fun d=>D.bl (kc many d))=(ts.map (kc many)).map D.bl:=by rw[e9,My];rfl
      have hm:=iT (mi:=iq (mV 2)) (ρ:=[ar (.tup [.int many,.tup ts]),ar (.int many),ar (.tup ts)]) (g:=gN 0) (t:=jb) (m:=jc) (js:=[none,ar 1]) (its:=ts) (fun ρ=>∃x,ρ=[x,ar (.int many)]) (fun _=>bc) (fun d=>.bl (kc many d)) rfl (by unfold lim;omega) ⟨none,rfl⟩
       (fun d hd ρ ⟨x,hρ⟩=>by
        subst hρ;exact⟨_,rfl,⟨_,rfl⟩,rfl,fun _=>j7 ((call2 (x:=.int many) (y:=d) rfl rfl).trans (HL (O ts rfl d hd)))⟩) (by rw[em];exact jW _)
      rw[em]at hm;have T:(ts.map (kc many)).all id=ts.all (kc many):=by rw[Nv];rfl
      have Y:i3 (.tup [.int many,.tup ts])=(ts.all (kc many) && uM ts):=by
       show(decide (0<=many) && (decide (many<=14) && (ts.all (kc many) && uM ts)))=_;rw[<-Bool.and_assoc,hr,M4]
      rw[Y];refine and_eq (b:=ts.all (kc many)) ((eh hm).trans (kN.trans (by rw[T]))) (fun Z=>?_) fun Z=>by rw[Z];rfl
      rw[Z,M4];exact j7 ((g0 rfl).trans (Di (fun t R=>AW (Mf.mp Z t R)) Q))
     |_=>first|exact no (by rw[X hw,if_neg (by decide),X W,if_neg (by decide)];rfl)|cases R
    ·have Y:i3 (.tup [.int many,t])=false:=by
      cases t<;>first|rfl|(show(decide (0<=many) && (decide (many<=14) && _))=c_;rw[<-Bool.and_assoc,Og _ |>.mp hr,M0])
     rw[Y];rw[Og _ |>.mp hr]at W;exact no (by rw[X hw,if_neg (by decide),X W];rfl)
   |_=>cases ew
  ·have Y:i3 (.tup [a,t])=false:=by cases a<;>first|rfl|exact absurd rfl ew
   rw[Y];exact no (by rw[X hw,Og _ |>.mp ew];rfl)
 ·have P:qZ d=false:=by rw[<-Og];exact hp
  have S:dq (bV (aP (av dH (ae (mV 0) ao)))) [ar d,none,none]=a_ true:=by
   show(bV _ _>>=_)=_;rw[g9 (j7 ((g0 rfl).trans (uO h.1))),P];rfl
  refine(dW (o:=.ret (.bl c_)) (cW ((bg S).trans (if_pos rfl))) rfl).trans ?_;unfold i3;split
  ·cases hp rfl
  ·rfl
end
def ez(S:aF)(k:Nat):Prop:=∃st b,S[k]? =ar [.int st,.bl b]/\0<=st/\(b=c_->st<2147483647)
theorem ez.lt{S:aF}{k:Nat}(h:ez S k):k<S.length:=let ⟨_,_,e,_⟩:=h;(LX.mp e).1
theorem rf{t:kb}{m n:cJ}{ρ:aQ}{b:Bool}{S S1:aF}(h:t ρ S=ar (.ok b,S1)):il t m n ρ S=if b=bc then m ρ S1 else n ρ S1:=by
 show(t ρ>>=fun c=>if c=bc then m ρ else n ρ) S=_;rw[aO h];split<;>rfl
section
variable {S:aF}{k:Nat}{st x y many:Int}{b:Bool}{r:List (Option D)}{e1 e2:TM}{ρ:aQ}
theorem Iz(e:S[k]? =ar [.int st,.bl b]):aX bA (mV 0) (mK (.int 0)) (ar (.lst k)::r) S=ar (.ok (.int st),S):=Dg e rfl
theorem jk(Y:e1 ρ S=ar (.ok (.int x),S))(Z:e2 ρ S=ar (.ok (.int y),S))(h:0<y):aX uh e1 e2 ρ S=ar (.ok (.int (x % y)),S):=
 (hU Y Z).trans (Mz (if_pos h:(if 0<y then (a_ (D.int (x % y)):M D)else M.fail)=_) S)
theorem rg(Y:e1 ρ S=ar (.ok (.int x),S))(Z:e2 ρ S=ar (.ok (.int y),S))(h:xc x y):aX ug e1 e2 ρ S=ar (.ok (.int (x*y)),S):=
 (hU Y Z).trans (Mz (if_pos h:(if xc x y then (a_ (D.int (x*y)):M D)else M.fail)=_) S)
theorem Dj(Y:e1 ρ S=ar (.ok (.int x),S))(Z:e2 ρ S=ar (.ok (.int y),S))(h:Bp x y):aX yH e1 e2 ρ S=ar (.ok (.int (x / y)),S):=
 (hU Y Z).trans (Mz (if_pos h:(if Bp x y then (a_ (D.int (x / y)):M D)else M.fail)=_) S)
theorem uR(Y:e1 ρ S=ar (.ok (.int x),S))(Z:e2 ρ S=ar (.ok (.int y),S)):aX bK e1 e2 ρ S=ar (.ok (.int (x+y)),S):=(hU Y Z).trans rfl
theorem JI(e:S[k]? =ar [.int st,.bl b])(h:e1 (ar (.lst k)::r) S=ar (.ok (.int x),S)):kB e1 (DU (mV 0) (mK (.int 0))) (ar (.lst k)::r) S=ar (.ok (.nx (ar (.lst k)::r)),S.set k [.int x,.bl b]):=by
 have hi:gY (.lst k) (.int 0) (.int x) S=ar (.ok (),S.set k [.int x,.bl b]):=by
  show(getL k>>=_) S=_;rw[aO (cX e)];exact aO (lp (us:=[.int x,.bl b]) qW (LX.mp e).1)
 have Z:DU (mV 0) (mK (.int 0)) (.int x) (ar (.lst k)::r) S=ar (.ok (ar (.lst k)::r),S.set k [.int x,.bl b]):=aO hi;show(e1 _>>=_) S=_;rw[aO h];exact aO Z
theorem kO{m n:cJ}{d:D}{S1:aF}(h:m ρ S=ar (.ok (.ret d),S1)):aH m n ρ S=ar (.ok (.ret d),S1):=aO h
end
theorem HP{S:aF}{k:Nat}{many:Int}{Q:D->aF->Prop}(hs:ez S k)(Y:0<many)(N:many<1073741824)
  (W:∀j S',0<=j->j<many->S'.length=S.length->(∀i,i≠k->S'[i]? =S[i]?)->ez S' k->Q (.int j) S'):runs (aw [.lst k,.int many]) S Q:=by
 have R:=hs.lt;obtain⟨st,b,e,P,O⟩:=hs;have q:∀x:Int,0<=x % many/\x % many<many:=fun x=>⟨Ov _ (by omega),NU _ Y⟩
 have U:bV (aX bA (mV 0) (mK (.int 1))) [ar (.lst k),ar (.int many),none,none] S=ar (.ok b,S):=aO (Dg (x:=.bl b) e rfl);have Z:∀(ys:List D) i,i≠k->(S.set k ys)[i]? =S[i]? :=fun ys i hi=>MW (kr hi);cases b with
 |true=>
  refine⟨_,_,ff (o:=.ret (.int (st % many))) (S1:=S.set k [.int (st / many),.bl bc]) ?_ rfl,W _ _ (q _).1 (q _).2 (by simp) (Z _) ⟨_,bc,Mo R,Int.ediv_nonneg P (by omega),fun z=>by cases z⟩⟩
  exact kO ((rf U).trans ((aL (bB (jk (Iz e) rfl Y))).trans ((aL (JI e (Dj (Iz e) rfl ⟨Y,N⟩))).trans (fW rfl))))
 |false=>
  have K:=O rfl;generalize hst:(st*48271+29) % 2147483647=st';have s1:0<=st':=by rw[<-hst];exact Ov _ (by decide)
  have s2:st'<2147483647:=by rw[<-hst];exact NU _ (by decide)
  have e1:(S.set k [.int st',.bl c_])[k]? =ar [.int st',.bl c_]:=Mo R;have X:=JI (r:=[ar (.int many),none,none]) e (jk (uR (rg (Iz e) (e2:=mK (.int 48271)) rfl (.inr ⟨by decide,by decide⟩)) (e2:=mK (.int 29)) rfl) (e2:=mK (.int 2147483647)) rfl (by decide))
  rw[hst]at X;have T:∀r,aX uh (aX bK (aX bK (aX ug (aX bA (mV 0) (mK (.int 0))) (aX bA (mV 0) (mK (.int 0)))) (aX ug (mK (.int 39373)) (aX bA (mV 0) (mK (.int 0))))) (mK (.int 7))) (mK (.int 2147483629)) (ar (.lst k)::r) (S.set k [.int st',.bl c_])=_:=fun r=>jk (uR (uR (rg (Iz e1) (Iz e1) (.inl ⟨by omega,by omega⟩)) (rg rfl (Iz e1) (.inl ⟨by decide,by decide⟩))) rfl) rfl (by decide)
  generalize hx:(st'*st'+39373*st'+7) % 2147483629=x at T;have J:0<=x:=by rw[<-hx];exact Ov _ (by decide)
  have L:x<2147483629:=by rw[<-hx];exact NU _ (by decide)
  refine⟨_,_,ff (o:=.ret (.int ((x*x+16807*x) % 2147483587 / 8 % many))) (S1:=S.set k [.int st',.bl c_]) ?_ rfl,W _ _ (q _).1 (q _).2 (by simp) (Z _) ⟨_,c_,e1,s1,fun _=>s2⟩⟩
  exact(aL (rf U)).trans ((aL X).trans ((aL (bB (T _))).trans ((aL (bB (jk (uR (rg rfl rfl (.inl ⟨by omega,by omega⟩)) (rg rfl rfl (.inl ⟨by decide,by decide⟩))) rfl (by decide)))).trans (fW (jk (Dj rfl rfl ⟨by decide,by decide⟩) rfl Y)))))
theorem HQ{S:aF}{ns:List Int}{k:Nat}:∃i,dI [.ro (ns.map D.int),.int k] S=ar (.ok (.int i),S):=by
 have Z:dG lB (mV 1) (b9 cz (mV 0)) [ar (.ro (ns.map D.int)),ar (.int k)]=a_ (decide ((k:Int)<(ns.map D.int).length)):=cm (x:=.int k) (y:=.int (ns.map D.int).length) rfl rfl rfl;by_cases h:k<ns.length
 ·refine⟨ns[k],ff (o:=.ret (.int ns[k])) (kO ((Mz ((bg Z).trans (if_pos (L8 (by rw[LR];omega)))) S).trans (fW (x:=.int ns[k]) (S1:=S) ?_))) rfl⟩
  have e:kd (ns.map D.int) (k:Int)=ar (.int ns[k]):=by
   unfold kd wZ;simp[h]
  show(match kd (ns.map D.int) k with|some d=>(a_ d:M D)|none=>M.fail) S=_
  rw[e];rfl
 ·exact⟨0,ff (o:=.ret (.int 0)) (Mz ((aZ ((bg Z).trans (if_neg (by rw[Mu,LR];omega)))).trans rfl) S) rfl⟩
theorem Fc{S:aF}{ns:List Int}{k:Nat}{Q:D->aF->Prop}(W:∀xs,ez (S++[xs]) S.length->Q (.lst S.length) (S++[xs])):runs (gu [.ro (ns.map D.int),.int k]) S Q:=by
 obtain⟨c,U⟩:=HQ (S:=S) (ns:=ns) (k:=k);have Y:bH 2 (av dI (ae (mV 0) (ae (mV 1) ao))) [ar (.ro (ns.map D.int)),ar (.int k),none] S=ar (.ok (.nx [ar (.ro (ns.map D.int)),ar (.int k),ar (.int c)]),S):=bB (x:=.int c) (by rw[call2 (x:=.ro (ns.map D.int)) (y:=.int k) rfl rfl];exact U)
 have X:∀ ρ,aX BR (mK (.int 10)) (mK (.int 18)) ρ=a_ (.int 1000000000000000000):=fun ρ=>(cQ (x:=.int 10) (y:=.int 18) rfl rfl).trans (if_pos (e:=M.fail) (show D5 10 18 from⟨by decide,by decide,by decide⟩))
 have Z:dG K2 (mV 2) (aX BR (mK (.int 10)) (mK (.int 18))) [ar (.ro (ns.map D.int)),ar (.int k),ar (.int c)]=a_ (decide (1000000000000000000<=c)):=cm (x:=.int c) rfl (X _) rfl;by_cases h:1000000000000000000<=c
 ·exact⟨_,_,ff (o:=.ret (.lst S.length)) ((aL Y).trans (kO ((Mz ((bg Z).trans (if_pos (L8 h))) S).trans (fW (jX (ys:=[.int (c - 1000000000000000000),.bl bc]) (bP (S1:=S) (Mz ((cQ (x:=.int c) rfl (X _)).trans rfl) S) (bP rfl rfl)) qW))))) rfl,W _ ⟨_,bc,cB,by omega,fun z=>by cases z⟩⟩
 ·exact⟨_,_,ff (o:=.ret (.lst S.length)) ((aL Y).trans ((aL (Mz ((bg Z).trans (if_neg (by rw[Mu];exact h))) S)).trans (fW (jX (ys:=[.int (c % 2147483647),.bl c_]) (bP (jk rfl rfl (by decide)) (bP rfl rfl)) qW)))) rfl,W _ ⟨_,c_,cB,Ov _ (by decide),fun _=>NU _ (by decide)⟩⟩
def uS(n a:Nat):List (List Int):=(o_ (a+1) (n - (a+1))).map fun b:Nat=>[(a:Int),(b:Int)]
def jY(n:Nat):List (List Int):=(ed n).flatMap (uS n)
structure Kp(k:Nat)(S S':aF):Prop where
 len:S.length<=S'.length
 oth:∀i,i<S.length->i≠k->S'[i]? =S[i]?
 st:ez S' k
theorem Kp.trans(a:Kp k S S1)(b:Kp k S1 S2):Kp k S S2:=⟨Ma a.len b.len,fun i hi Z=>(b.oth i (Mc hi a.len) Z).trans (a.oth i hi Z),b.st⟩
theorem Kp.refl(h:ez S k):Kp k S S:=⟨LU _,fun _ _ _=>rfl,h⟩
theorem ez.grow(h:ez S k):ez (S++G) k:=by
 obtain⟨st,b,e,r⟩:=id h;exact⟨st,b,by rw[Mv h.lt];exact e,r⟩
theorem Kp.grow(h:ez S k)(G:aF):Kp k S (S++G):=⟨by simp,fun i hi _=>Mv hi,h.grow⟩
theorem zA{Q:D->aF->Prop}(hs:ez S k)(W:0<many)(X:many<1073741824)(U:∀j Z,0<=j->j<many->Z.length=S.length->Kp k S Z->Q (.int j) Z):runs (aw [.lst k,.int many]) S Q:=
 HP hs W X fun j Z a b c d e=>U j Z a b c ⟨Om c.symm,fun i _ Y=>d i Y,e⟩
theorem lq:∀ns:List Int,mapP (ji S n) (ns.map D.int)=ar (ns.map q0)
 |[]=>rfl
 |x::r=>by
  show(match ji S n (D.int x),mapP (ji S n) (r.map D.int)with|some p,ar ps=>ar (p::ps)|_,_=>none)=_
  rw[je,lq r];rfl
theorem Dk{ns:List Int}(h:S[k]? =ar (ns.map D.int)):ji S (n+1) (.lst k)=ar (.list (ns.map q0)):=by
 show((S[k]?).bind fun xs=>(mapP (ji S n) xs).map Qf)=_;rw[h];show(mapP (ji S n) (ns.map D.int)).map Qf=_;rw[lq];rfl
theorem tm{α Z:Type}(f:α->Z):∀(l:List α) (i:Nat),(l.map f).eraseIdx i=(l.eraseIdx i).map f
 |[],_=>rfl
 |_::_,0=>rfl
 |a::l,i+1=>by simp[tm f l i]
def jZ(r:List Int):PyData:=.tuple (r.map q0)
theorem lr(r:List Int):ji S (n+1) (tupI r)=ar (jZ r):=by
 show(mapP (ji S n) (r.map D.int)).map w8=_;rw[lq];rfl
theorem n5:∀rs:List (List Int),mapP (ji S (n+1)) (rs.map tupI)=ar (rs.map jZ)
 |[]=>rfl
 |x::r=>by
  show(match ji S (n+1) (tupI x),mapP (ji S (n+1)) (r.map tupI)with|some p,ar ps=>ar (p::ps)|_,_=>none)=_
  rw[lr,n5 r];rfl
theorem fX(ns:List Int):intsOf (ns.map D.int)=ar ns:=by
 induction ns with
 |nil=>rfl
 |cons x r ih=>simp[intsOf,ih]
theorem rh(Z:List (List Int)):rowsOf (Z.map tupI)=ar Z:=by
 induction Z with
 |nil=>rfl
 |cons x r ih=>
  show(match intsOf (x.map D.int),rowsOf (r.map tupI)with|some ns,ar nss=>ar (ns::nss)|_,_=>none)=_
  rw[fX,ih]
structure WebOk(many:Int)(ts:List (List Int)):Prop where
 el:∀t∈ts,∃a b:Int,t=[a,b]/\0<=a/\a<b/\b<many
 ris:ts.Pairwise fun a b=>HT.lexLt a b=bc
 few:ts.length<=21
theorem Dl:∀t∈jY n,∃a b:Int,t=[a,b]/\0<=a/\a<b/\b<n:=by
 intro t X;unfold jY at X;obtain⟨a,W,Y⟩:=List.mem_flatMap.mp X;unfold uS at Y;obtain⟨b,Z,rfl⟩:=Mp.mp Y;rw[N5]at Z;rw[L9]at W;exact⟨a,b,rfl,by omega,by omega,by omega⟩
theorem n6(Z:n<=7):(jY n).Pairwise (fun a b=>HT.lexLt a b=bc)/\(jY n).length<=21:=by
 have:∀m,m<8->(jY m).Pairwise (fun a b=>HT.lexLt a b=bc)/\(jY m).length<=21:=by decide+kernel
 exact this n (by omega)
theorem WebOk.of_sub(Y:n<=7){Z:List (List Int)}(h:Z.Sublist (jY n)):WebOk n Z:=
 ⟨fun t X=>Dl t (h.subset X),List.Pairwise.sublist h (n6 Y).1,Ma h.length_le (n6 Y).2⟩
theorem AX{Z:List (List Int)}(h:Z.Pairwise fun a b=>HT.lexLt a b=bc):eN Z=Z:=
 nS (cu Z) (dR Z) (h.imp fun z=>vP z)
theorem AY:uL (tupI a) (tupI b)=HT.lexLt a b:=by
 simp only[uL,tupI,fX]
theorem wq:∀{ts:List (List Int)},ts.Pairwise (fun a b=>HT.lexLt a b=bc)->uM (ts.map tupI)=bc
 |[],_=>rfl
 |[_],_=>rfl
 |a::b::r,h=>by
  obtain⟨Y,Z⟩:=MR.mp h;show(uL (tupI a) (tupI b) && uM ((b::r).map tupI))=bc;rw[AY,Y b (by simp),wq Z];rfl
theorem Fd(W:0<=many)(Z:many<=14)(w:WebOk many ts):i3 (.tup [.int many,.tup (ts.map tupI)])=true:=by
 have:(ts.map tupI).all (kc many)=true:=by
  rw[Nv,Mf];intro t U;obtain⟨a,b,rfl,X,Y,T⟩:=w.el t U;simp[tupI,kc,cC,X,Y,T];omega
 simp only[i3,W,Z,this,wq w.ris,decide_true,QD]
theorem tq:t∈fF l↔t∈l:=by
 unfold fF;rw[(cu _).mem_iff,jA]
theorem tw:∀l:List (List Int),(gJ l).length<=l.length
 |[]=>LU _
 |x::r=>by
  unfold gJ;have:=tw r;split
  ·simp;omega
  ·simp;omega
theorem AZ(l:List (List Int)):(fF l).length<=l.length:=by
 unfold fF;rw[(cu _).length_eq];exact tw l
theorem A0(l:List (List Int)):(fF l).Pairwise fun a b=>HT.lexLt a b=true:=by
 have X:=dR (gJ l);have Z:(fF l).Nodup:=(NH (cu _)).mpr (m3 l);unfold fF at Z⊢;generalize eN (gJ l)=s at X Z
 induction s with
 |nil=>exact .nil
 |cons x r ih=>
  obtain⟨a1,a2⟩:=MR.mp X;obtain⟨W,U⟩:=MM.mp Z;refine MR.mpr ⟨fun y Y=>?_,ih a2 U⟩;cases q:HT.lexLt x y with
  |true=>rfl
  |false=>exact absurd (pL q (a1 y Y) ▸ Y) W
def JJ:Nat->D->Bool
 |_,.ro _=>c_
 |_,.fn _ _ _ _ _=>c_
 |_,.exc _ _=>c_
 |n+1,.tup ds=>ds.all (JJ n)
 |_,_=>bc
theorem zB(h:JJ n d=bc):Dh d:=by
 cases d<;>first|rfl|(cases n<;>cases h)
theorem JK(h:JJ (n+1) d=bc):Le d:=⟨zB h,fun ds e x Z=>by
 subst e;exact zB (Mf.mp h x Z)⟩
def JL:D->Bool
 | .tup ds=>ds.all fun x=>match x with
  | .tup ts=>decide (ts.length<=18)
  |_=>bc
 |_=>bc
structure Good(d:D):Prop where
 nr:Kf d
 few:∀m ts,d= .tup [m,.tup ts]->ts.length<=18
theorem Fe(h:JJ 3 d=bc)(X:JL d=bc):Good d:=⟨⟨zB h,fun ds e x U=>by
  subst e;have Z:=Mf.mp h x U;refine⟨zB Z,fun Y W t T=>?_⟩;subst W;exact JK (Mf.mp Z t T)⟩,fun m Y e=>by
  subst e;have:=Mf.mp X (.tup Y) (by simp)
  simpa using this⟩
def Dm(d:D):Bool:=JJ 3 d && JL d
theorem nu(h:Dm d=bc):Good d:=by
 unfold Dm at h;rw[MH]at h;exact Fe h.1 h.2
theorem Dn{xs:List D}{j:Int}(X:0<=j)(Y:j<xs.length):∃d,kd xs j=ar d/\d∈xs:=by
 have Z:j.toNat<xs.length:=by omega
 refine⟨xs[j.toNat],?_,M1 Z⟩;unfold kd wZ;simp[X,Y,Z]
section
variable {d:D}
theorem Do(h:Kf d)(Y:∀m ts,d= .tup [m,.tup ts]->ts.length<=1000):cH [d]=if i3 d=bc then a_ .non else M.raise (.exc "NoWeb" []):=by
 have Z:dq (bV (aP (av jC (ae (mV 0) ao)))) [ar d]=a_ (!i3 d):=by
  show(bV _ _>>=_)=_;rw[g9 (b:=i3 d) (j7 ((g0 rfl).trans (HN h Y)))];rfl
 cases hw:i3 d with
 |true=>exact(jl ((bg Z).trans (by rw[hw];exact if_neg (by decide))) rfl).trans (if_pos rfl).symm
 |false=>exact(dM ((bg Z).trans (by rw[hw];exact if_pos rfl))).trans (if_neg (by decide)).symm
end
theorem jE(l:List (List Int)):cG 0 (l.map tupI)=true:=by
 have h:∀r:List Int,cG 0 (r.map D.int)=true:=fun r=>by
  induction r with
  |nil=>rfl
  |cons x r ih=>rw[Mh];unfold cG;rw[ih];unfold fU;rfl
 induction l with
 |nil=>rfl
 |cons x l ih=>rw[Mh];unfold cG;rw[ih];unfold tupI fU;rw[h];rfl
abbrev ak(n:Nat)(E:List (List Int)):D:=.tup [.int n,.tup (E.map tupI)]
theorem HR:Kf (ak n E):=by
 refine⟨rfl,?_⟩;intro ds e x Z;cases e;simp only[f_,fb,or_false]at Z;rcases Z with rfl|rfl
 ·exact⟨rfl,fun Y e=>by cases e⟩
 ·refine⟨rfl,fun Y e t X=>?_⟩;cases e;obtain⟨r,_,rfl⟩:=Mp.mp X;refine⟨rfl,fun ds e x Z=>?_⟩;cases e;obtain⟨i,_,rfl⟩:=Mp.mp Z;exact rfl
theorem Ff{n:Nat}{E:List (List Int)}(w:WebOk n E):∀m Z,ak n E= .tup [m,.tup Z]->Z.length<=1000:=by
 intro m Z e;cases e;have:=w.few;rw[LR];omega
def great(a:Nat):D:=.exc "TooGreat" [.int a,.int 7]
theorem same_int:bS (k+1) [.int i,.int i]=a_ (.bl bc):=by
 refine dW (o:=.ret (.bl bc)) ?_ rfl;show dh _ [ar (.int i),ar (.int i)]=_;unfold dh;rw[aZ (ρ':=[ar (.int i),ar (.int i)]) ((bg (b:=c_) (g9 rfl)).trans (if_neg (by decide)))]
 refine fe ?_;show(aX rR (mV 0) (mV 1) _>>=_)=_;rw[cQ (x:=.int i) (y:=.int i) rfl rfl,LK,ay];rw[show lE (D.bl bc)=a_ bc from rfl,ay,if_pos rfl,cQ (x:=.bl c_) (y:=.bl c_) rfl rfl,LL]
theorem Dp{xs:List D}(Q:xs.length<=1000)(h:∀x∈xs,bS k [x,x]=a_ (.bl bc)):bS (k+1) [.tup xs,.tup xs]=a_ (.bl bc):=by
 have em:((((xs.zip xs).map fun p:D×D=>D.tup [p.1,p.2]).filter fun _=>bc).map fun _=>D.bl bc)=(xs.map fun _=>bc).map D.bl:=by
  rw[e9,My,My];refine PX (by simp) fun i P R=>by simp
 have Y:=iT (mi:=sU (mV 0) (mV 1)) (g:=fE 2 (bb (gN 0) (bb (gN 1) dY))) (t:=gv (bS k)) (m:=gw (bS k)) (js:=[none,none]) (ρ:=[ar (.tup xs),ar (.tup xs)])
  (its:=(xs.zip xs).map fun p:D×D=>D.tup [p.1,p.2]) (fun ρ=>∃x y,ρ=[x,y]) (fun _=>bc) (fun _=>.bl bc) rfl (by rw[LR,P6];unfold lim;omega) ⟨none,none,rfl⟩
  (fun d hd ρ ⟨x,y,hρ⟩=>by
   subst hρ;obtain⟨z,S,rfl⟩:=qY hd;exact⟨_,rfl,⟨_,_,rfl⟩,rfl,fun _=>j7 ((call2 rfl rfl).trans (h z S))⟩) (by rw[em];exact jW _)
 rw[em]at Y;have Z:(xs.map fun _=>bc).all id=true:=by rw[Nv];exact Mf.mpr fun _ _=>rfl
 have hlen:∀j,j<2->b9 cz (mV j) [ar (.tup xs),ar (.tup xs)]=a_ (.int xs.length):=fun j U=>by
  match j,U with
  |0,_=>rfl
  |1,_=>rfl
 refine dW (o:=.ret (.bl bc)) ?_ rfl;show dh _ [ar (.tup xs),ar (.tup xs)]=_;unfold dh;refine cW ?_;refine(bg (b:=bc) (g9 rfl)).trans ?_;rw[if_pos rfl];have hi:∀T,aX ib (fu (mV 0) T) (fu (mV 1) T) [ar (.tup xs),ar (.tup xs)]=a_ (.bl c_):=fun T=>(cQ (x:=.bl (iI "tuple" T)) (y:=.bl (iI "tuple" T)) rfl rfl).trans Ld;have X:∀T,dG ib (fu (mV 0) T) (fu (mV 1) T) [ar (.tup xs),ar (.tup xs)]=a_ false:=fun T=>cm (x:=.bl (iI "tuple" T)) (y:=.bl (iI "tuple" T)) rfl rfl Ld;have W:oH (dG ib (fu (mV 0) "tuple") (fu (mV 1) "tuple")) (dG ib (fu (mV 0) "list") (fu (mV 1) "list")) [ar (.tup xs),ar (.tup xs)]=a_ false:=by
  show(dG ib _ _ _>>=_)=_;rw[X "tuple",ay];exact X "list"
 rw[aZ ((bg W).trans (if_neg (by decide))),aZ ((bg (cm (hlen 0 (by decide)) (hlen 1 (by decide)) Lr)).trans (if_neg (by decide)))]
 refine fe ((eh Y).trans (kN.trans ?_));rw[Z]
def rj(c:M D)(k:D->M D):M D:=fun S=>match c S with
 |some (.ok _,S')=>k .non S'
 |some (.ex (.exc n ds),S')=>if n∈a9 then k (.exc n ds) S' else none
 |_=>none
theorem Dq{g:Str->Bool}(Z:n∈a9):vW g (.exc n ds)=a_ (.bl (g n)):=if_pos Z
def IA(bs:List Bool):D->Bool
 | .int k=>bs.getD k.toNat c_
 |_=>c_
section
variable {S S':aF}{k:Nat}
theorem pN(Z:Kp k S S'):qJ S S':=fun i xs hi e=>by
 by_cases h:i=k
 ·subst h;obtain⟨st,b,e2,_⟩:=Z.st;rw[e2]at e;cases e;exact .inr rfl
 ·exact .inl (by rw[<-Z.oth i hi h];exact e)
theorem zF(hs:ez S k)(Z:Kp k S S'):Kp k S (S'.take S.length)/\(S'.take S.length).length=S.length:=by
 have Y:(S'.take S.length).length=S.length:=by rw[MK];have:=Z.len;omega
 have X:∀i,i<S.length->(S'.take S.length)[i]? =S'[i]? :=fun i hi=>by rw[NW,if_pos hi]
 refine⟨⟨Om Y.symm,fun i hi W=>(X i hi).trans (Z.oth i hi W),?_⟩,Y⟩;obtain⟨st,b,e,r⟩:=Z.st;exact⟨st,b,(X k hs.lt).trans e,r⟩
theorem lN{c:M D}(hs:ez S k)(h:c S=ar (.ok d,S'))(Z:Kp k S S')(Y:fU 0 d=bc):∃S1,jt c S=ar (.ok d,S1)/\Kp k S S1/\S1.length=S.length:=
 ⟨_,nW h (pN Z) (.inr rfl) Z.len (uI d (zv (Mg _) d Y)),zF hs Z⟩
theorem n8:fU 0 (ak n E)=true:=by
 unfold ak fU cG fU cG fU;rw[jE];rfl
theorem uT(hs:ez S k)(X:0<many)(Y:many<1073741824):∃j S1,jt (aw [.lst k,.int many]) S=ar (.ok (.int j),S1)/\0<=j/\j<many/\Kp k S S1/\S1.length=S.length:=by
 obtain⟨d,S',e,j,rfl,a,b,Z⟩:=zA (Q:=fun d S'=>∃j,d= .int j/\0<=j/\j<many/\Kp k S S') hs X Y fun j S' a b _ Z=>⟨j,rfl,a,b,Z⟩;obtain⟨S1,e1,k1⟩:=lN hs e Z rfl;exact⟨j,S1,e1,a,b,k1⟩
end
theorem rk(h:n<=k)(Z:S[k]? =ar us)(Y:cG 0 us=bc):jr n (xX S n (f+1)) (.lst k)=ar (.fz us):=by
 unfold jr;rw[if_neg (by omega)]
 show((S[k]?).bind fun xs=>gZ n (xX S n f) xs).map D.fz=_;rw[Z,NP,i9 us (jQ (Mg _) us Y)];rfl
theorem pk{S G:aF}(i:Nat):(S++G)[S.length+i]? =G[i]? :=by rw[Nq (NN _ _),Nat.add_sub_cancel_left]
theorem JM(h:∀S,ji S 60 (.fz us)=ar p)(Z:gc p p=bc):ib (.fz us) (.fz us)=a_ (.bl c_):=bW fun S=>by
 unfold ib;exact(gU (h S) (h S)).mpr ⟨by rw[Z];rfl,rfl⟩
theorem Fg:ib (.fz [.int i]) (.fz [.int i])=a_ (.bl c_):=JM (p:=.list [.int i]) (fun S=>rfl) (by simp[gc,s_])
theorem uU:aP (bx (ae (mK (.int i)) ao)) ρ=a_ (.fz [.int i]):=cL (us:=[.int i]) rfl (by show 1<=lim;unfold lim;omega)
theorem Fh{g:nD}{b:cJ}(X:S[p]? =ar its)(h:g d ρ=a_ ρ1)(Z:b ρ1 S=ar (.ok (.nx ρ2),S1)):eG ⟨its,.some p⟩ g b (d::ds) ρ S=eG ⟨its,.some p⟩ g b ds ρ2 S1:=by
 have Y:jz ⟨its,.some p⟩ S=ar (.ok (),S):=by
  unfold jz;exact if_pos X
 rw[eG,aO Y,h,ay,aO Z]
theorem Ds(Y:S[p]? =ar its):eG ⟨its,.some p⟩ g b [] ρ S=ar (.ok (.nx ρ),S):=by
 have Z:jz ⟨its,.some p⟩ S=ar (.ok (),S):=by
  unfold jz;exact if_pos Y
 rw[eG,aO Z];rfl
section
variable {ρ:aQ}{js:List Nat}{ds:List D}{m:TM}{c:M D}{R:M D->List D->M D}{x:D}
end
section
variable {me e:TM}{g:nD}{ρ ρ':aQ}{S S1 S2:aF}{d:D}{F:List D->M D}{x y:D}
theorem yd(Y:me ρ S=ar (.ok d,S1))(Z:g d ρ S1=ar (.ok ρ',S2)):kB me g ρ S=ar (.ok (.nx ρ'),S2):=by
 unfold kB;rw[aO Y,aO Z];rfl
theorem Fi{mi:aQ->M Iter}(hi:mi ρ S=ar (.ok ⟨its,.some p⟩,S1))(h:eG ⟨its,.some p⟩ g b its ρ S1=ar (.ok o,S2)):jB mi g b ρ S=ar (.ok o,S2):=by
 unfold jB;rw[aO hi];exact h
end
section
variable {S S1 S2:aF}{k p q:Nat}{e1 e2:TM}{ρ:aQ}{x y:D}{f:D->List D->M D}{xs:List D}
theorem lO(Y:e1 ρ=a_ x)(X:Iv x=a_ ())(Z:e2 ρ S=ar (.ok y,S1)):xQ f e1 e2 ρ S=f x [y] S1:=by
 unfold xQ;rw[Y,ay,X,ay,aO (a:=[y]) (S1:=S1)];rw[aO Z];rfl
theorem oa(Z:S[p]? =ar xs)(Y:xs.length<=1000):dE (.lst p) [d] S=ar (.ok .non,S.set p (xs++[d])):=by
 show(getL p>>=fun xs=>lA p (xs++[d])) S=_;rw[aO (cX Z)];exact lp (by rw[LW];show xs.length+1<=lim;unfold lim;omega) (LX.mp Z).1
theorem pop_at{j:Int}{d:D}(Z:S[p]? =ar xs)(U:xs.length<=1000)(X:0<=j)(Y:j<xs.length)(W:xs[j.toNat]? =ar d):nO (.lst p) [.int j] S=ar (.ok d,S.set p (xs.eraseIdx j.toNat)):=by
 show(getL p>>=fun xs=>if 0<=j/\j<xs.length then (match xs[j.toNat]? with|some y=>(do let _<-lA p (xs.eraseIdx j.toNat);a_ y)|none=>M.fail)else M.fail) S=_
 rw[aO (cX Z),if_pos ⟨X,Y⟩,W];show(lA p (xs.eraseIdx j.toNat)>>=fun _=>a_ d) S=_;rw[aO (lp (by have:=List.length_eraseIdx_le xs j.toNat;unfold lim;omega) (LX.mp Z).1)];rfl
theorem HS{ns:List Int}(X:S[p]? =ar (ns.map D.int)):ib (.lst p) (.fz []) S=ar (.ok (.bl (!ns.isEmpty)),S):=by
 have Y:ji S 60 (.fz [])=ar (.list []):=rfl;obtain⟨d,Z,e,h⟩:=(gU (f:=fun p q=> !gc p q) (Q:=fun d Z=>d= .bl (!ns.isEmpty)/\Z=S) (Dk (n:=59) X) Y).mpr ⟨by
  have:gc (.list (ns.map q0)) (.list [])=ns.isEmpty:=by cases ns<;>simp[gc,s_]
  rw[this],rfl⟩
 obtain⟨rfl,rfl⟩:=h;exact e
end
theorem Kp.set(Y:Kp k S S')(W:S.length<=p)(X:k<S.length):Kp k S (S'.set p xs):=by
 refine⟨by rw[M9];exact Y.len,fun i hi Z=>?_,?_⟩
 ·rw[MW (by omega)];exact Y.oth i hi Z
 ·obtain⟨st,b,e,r⟩:=Y.st;exact⟨st,b,by rw[MW (by omega)];exact e,r⟩
theorem ye{l:List Int}(h:j<l.length):(l[j]::l.eraseIdx j).Perm l:=by
 induction l generalizing j with
 |nil=>cases h
 |cons x l ih=>
  cases j with
  |zero=>exact .refl _
  |succ j=>exact(List.Perm.swap _ _ _).trans ((ih (by simpa using h)).cons _)
theorem wt{S:aF}{k p q:Nat}{a1:Option D}(R:k<S.length)(N:S.length<=p)(O:S.length<=q)(Y:p≠q):∀(f:Nat) (ls ms:List Int) (S':aF),ls.length<f->ls.length+ms.length<=14->S'[p]? =ar (ls.map D.int)->S'[q]? =ar (ms.map D.int)->Kp k S S'->
  ∃(zs:List Int) (S2:aF),ky (dG ib (mV 2) (aP (bx ao))) ef f [ar (.lst k),a1,ar (.lst p),ar (.lst q)] S'=ar (.ok (.nx [ar (.lst k),a1,ar (.lst p),ar (.lst q)]),S2)/\S2[q]? =ar (zs.map D.int)/\zs.Perm (ms++ls)/\Kp k S S2
 |0,ls,ms,S',h,_,_,_,_=>by omega
 | f +1,ls,ms,S',hf,hl,g1,g2,kp=>by
  have K:dG ib (mV 2) (aP (bx ao)) [ar (.lst k),a1,ar (.lst p),ar (.lst q)] S'=ar (.ok (!ls.isEmpty),S'):=by
   have L:aP (bx ao) [ar (.lst k),a1,ar (.lst p),ar (.lst q)]=a_ (.fz []):=cL (us:=[]) rfl (Mg _);show((mV 2 _>>=fun x=>aP (bx ao) _>>=fun y=>ib x y)>>=lE) S'=_;rw[L];show(ib (.lst p) (.fz [])>>=lE) S'=_;rw[aO (HS g1)];rfl
  rw[ky,aO K];cases ls with
  |nil=>exact⟨ms,S',by rfl,g2,by rw[MI],kp⟩
  | cons l0 ls0=>
   generalize hL:l0::ls0=ls at*;have Q:(!ls.isEmpty)=true:=by rw[<-hL];rfl
   have P:0<ls.length:=by rw[<-hL];exact Nat.succ_pos _
   rw[if_pos Q];obtain⟨j,S1,B,I,A,X,z⟩:=uT (S:=S') (k:=k) (many:=ls.length) kp.st (by omega) (by omega)
   have J:=(LX.mp g1).1;have ql:=(LX.mp g2).1;have F:=(X.oth p J (by omega)).trans g1
   have G:=(X.oth q ql (by omega)).trans g2
   have U:j.toNat<ls.length:=by omega
   have H:ef [ar (.lst k),a1,ar (.lst p),ar (.lst q)] S'=ar (.ok (.nx [ar (.lst k),a1,ar (.lst p),ar (.lst q)]),(S1.set p ((ls.eraseIdx j.toNat).map D.int)).set q ((ms++[ls[j.toNat]]).map D.int)):=by
    unfold ef;have hlen:b9 cz (mV 2) [ar (.lst k),a1,ar (.lst p),ar (.lst q)] S'=ar (.ok (.int ls.length),S'):=by
     refine(jf (x:=.lst p) (S1:=S') rfl).trans ?_;show(getL p>>=fun xs=>a_ (D.int xs.length)) S'=_;rw[aO (cX g1),LR];rfl
    have T:aP (av aw (ae (mV 0) (ae (b9 cz (mV 2)) ao))) [ar (.lst k),a1,ar (.lst p),ar (.lst q)] S'=ar (.ok (.int j),S1):=by
     have E:av aw (ae (mV 0) (ae (b9 cz (mV 2)) ao)) [ar (.lst k),a1,ar (.lst p),ar (.lst q)] S'=aw [.lst k,.int ls.length] S':=aO (bP (x:=.lst k) rfl (bP hlen rfl));unfold aP;rw[<-B];unfold jt;rw[E]
    have Z:=(lO (f:=nO) (e1:=mV 2) (ρ:=[ar (.lst k),a1,ar (.lst p),ar (.lst q)]) (x:=.lst p) rfl rfl T).trans (pop_at (d:=.int ls[j.toNat]) F (by rw[LR];omega) I (by rw[LR];omega) (by rw[Mi,LV U];rfl))
    rw[tm]at Z;have W:=(lO (f:=dE) (e1:=mV 3) (ρ:=[ar (.lst k),a1,ar (.lst p),ar (.lst q)]) (x:=.lst q) rfl rfl Z).trans (oa (d:=.int ls[j.toNat]) (xs:=ms.map D.int) (by rw[MW Y];exact G) (by rw[LR];omega))
    refine nq (x:=.non) (W.trans ?_);rw[MY];rfl
   rw[aO H];have he:=O9 U;obtain⟨zs,S2,e2,g3,C,k2⟩:=wt (a1:=a1) R N O Y f (ls.eraseIdx j.toNat) (ms++[ls[j.toNat]]) ((S1.set p ((ls.eraseIdx j.toNat).map D.int)).set q ((ms++[ls[j.toNat]]).map D.int)) (by omega) (by rw[LW];show _+(ms.length+1)<=14;omega)
    (by rw[MW (kr Y),Mo (by omega)]) (by rw[Mo (by rw[M9];omega)]) (((kp.trans X).set N R).set O R)
   refine⟨zs,S2,e2,g3,C.trans ?_,k2⟩;rw[Mr];exact(ye U).append_left ms
theorem JN{j:Int}(h: -(2 ^ 62)<=j/\j<=lim):dm [.int j]=bJ (bG 0 j.toNat):=by unfold dm;exact if_pos h
theorem j3(r:List Int):cG 0 (r.map D.int)=true:=by
 induction r with
 |nil=>rfl
 |cons x r ih=>rw[Mh];unfold cG;rw[ih];unfold fU;rfl
theorem yf(r:List Int):fU 0 (tupI r)=true:=by unfold tupI fU;exact j3 r
def ij(n:Nat):List Int:=(ed n).map fun i:Nat=>(0:Int)+(i:Int)
theorem rl{S:aF}{k n:Nat}(hs:ez S k)(T:n<=14):∃(zs:List Int) (S1:aF),jt (bM [.lst k,.int n]) S=ar (.ok (tupI zs),S1)/\zs.Perm (ij n)/\Kp k S S1/\S1.length=S.length:=by
 have U:bG 0 n=(ij n).map D.int:=by unfold bG ij;rw[My];rfl
 have hlen:(ij n).length=n:=by unfold ij;simp
 obtain⟨zs,S2,e2,g3,Z,k2⟩:=wt (S:=S) (k:=k) (p:=S.length) (q:=S.length+1) (a1:=ar (.int n)) hs.lt (LU _) (Oh _) (by omega) 64 (ij n) [] (S++[(ij n).map D.int,[]]) (by omega) (by simp;omega) (pk 0) (pk 1) (Kp.grow hs _)
 have X:(zs.map D.int).length<=lim:=by rw[LR,Z.length_eq,Oz,hlen];unfold lim;omega
 have hm:iA [ar (.lst k),ar (.int n),none,none] S=ar (.ok (.ret (tupI zs)),S2):=by
  unfold iA;have W:b9 dm (mV 1) [ar (.lst k),ar (.int n),none,none] S=ar (.ok (.lst S.length),S++[(ij n).map D.int]):=by
   refine(Mz (eh (f:=dm) (m:=mV 1) (ρ:=[ar (.lst k),ar (.int n),none,none]) (x:=.int n) rfl) S).trans ?_;rw[JN (j:=n) ⟨by omega,by unfold lim;omega⟩,MB,U]
   exact dj (by rw[LR,hlen];unfold lim;omega)
  have Y:bH 3 (bx ao) [ar (.lst k),ar (.int n),ar (.lst S.length),none] (S++[(ij n).map D.int])=ar (.ok (.nx [ar (.lst k),ar (.int n),ar (.lst S.length),ar (.lst (S.length+1))]),S++[(ij n).map D.int,[]]):=by
   refine(bB (dj (S:=S++[(ij n).map D.int]) (us:=[]) (Mg _))).trans ?_;rw[Mr,LW];rfl
  refine(aL (bB W)).trans ((aL Y).trans ((aL e2).trans (fW ((jf (x:=.lst (S.length+1)) (S1:=S2) rfl).trans ?_))));show(getL (S.length+1)>>=fun xs=>bU xs) S2=_;rw[aO (cX g3)];unfold bU;rw[if_pos X];rfl
 obtain⟨S1,e1,k1⟩:=lN (c:=bM [.lst k,.int n]) (d:=tupI zs) hs (ff (o:=.ret (tupI zs)) hm rfl) k2 (yf zs);exact⟨zs,S1,e1,by rw[Oz]at Z;exact Z,k1⟩
inductive Dr(P:D->D->Prop):List D->List D->Prop
 |nil:Dr P [] []
 |skip {d:D} {ds ys:List D}:Dr P ds ys->Dr P (d::ds) ys
 |put {d y:D} {ds ys:List D}:P d y->Dr P ds ys->Dr P (d::ds) (y::ys)
theorem Dr.len:∀{ds ys:List D},Dr P ds ys->ys.length<=ds.length
 |_,_,.nil=>LU _
 |_,_,.skip h=>Nat.le_succ_of_le h.len
 |_,_,.put _ h=>Oe h.len
theorem Dr.cl{P:D->D->Prop}(Z:∀d y,P d y->fU 0 y=bc):∀{ds ys:List D},Dr P ds ys->cG 0 ys=bc
 |_,_,.nil=>rfl
 |_,_,.skip h=>h.cl Z
 |_,_,.put p h=>by unfold cG;rw[Z _ _ p,h.cl Z];rfl
theorem mq{g:nD}{t:aQ->M Bool}{m:TM}(R:aQ->Prop)(P:D->D->Prop):∀(items:List D) (ρ:aQ) (S:aF),R ρ->ez S k->
  (∀d∈items,∀ ρ S,R ρ->ez S k->∃Z b S1,g d ρ=a_ Z/\R Z/\t Z S=ar (.ok b,S1)/\Kp k S S1/\S1.length=S.length/\(b=bc->∃y S2,m Z S1=ar (.ok y,S2)/\P d y/\Kp k S1 S2/\S2.length=S1.length))->
  ∃ys S2,dz ⟨its,.none⟩ g t m items ρ S=ar (.ok ys,S2)/\Dr P items ys/\Kp k S S2/\S2.length=S.length
 |[],ρ,S,_,hs,_=>⟨[],S,by unfold dz;rw[eV];rfl,.nil,.refl hs,rfl⟩
 | d::ds,ρ,S,hR,hs,hb=>by
  obtain⟨Z,b,S1,e1,Y,e2,k1,O,K⟩:=hb d (Md ..) ρ S hR hs;cases b with
  |false=>
   obtain⟨ys,S2,T,U,k2,Q⟩:=mq (its:=its) R P ds Z S1 Y k1.st fun x X=>hb x (L5 _ X);refine⟨ys,S2,?_,.skip U,k1.trans k2,Q.trans O⟩;unfold dz;rw[eV,ay,e1,ay,aO e2,if_neg (by decide)]
   exact T
  |true=>
   obtain⟨y,S2,e3,L,k2,Q⟩:=K rfl;obtain⟨ys,W,T,U,k3,N⟩:=mq (its:=its) R P ds Z S2 Y k2.st fun x X=>hb x (L5 _ X);refine⟨y::ys,W,?_,.put L U,(k1.trans k2).trans k3,N.trans (Q.trans O)⟩;unfold dz;rw[eV,ay,e1,ay,aO e2,if_pos rfl,aO e3,aO T];rfl
theorem tx{mi:aQ->M Iter}{g:nD}{t:kb}{m:TM}(R:aQ->Prop)(P:D->D->Prop)(hi:mi ρ=a_ ⟨its,.none⟩)(Q:its.length<=1000)(T:R (j9 js ρ))(hs:ez S k)(X:∀d y,P d y->fU 0 y=bc)
  (U:∀d∈its,∀ ρ S,R ρ->ez S k->∃ ρ1 b S1,g d ρ=a_ ρ1/\R ρ1/\t ρ1 S=ar (.ok b,S1)/\Kp k S S1/\S1.length=S.length/\(b=bc->∃y S2,m ρ1 S1=ar (.ok y,S2)/\P d y/\Kp k S1 S2/\S2.length=S1.length)):
  ∃ys S2,aP (cq mi g t m js) ρ S=ar (.ok (.fz ys),S2)/\Dr P its ys/\Kp k S S2/\S2.length=S.length:=by
 obtain⟨ys,S2,e,Y,k2,Z⟩:=mq (its:=its) (g:=g) (t:=t) (m:=m) (k:=k) R P its (j9 js ρ) S T hs U;have hlen:=Y.len;refine⟨ys,S2,?_,Y,k2,Z⟩;have W:cq mi g t m js ρ S=ar (.ok (.lst S2.length),S2++[ys]):=by
  unfold cq;rw[hi,ay];unfold i5;rw[if_pos (show its.length<=lim by unfold lim;omega),aO e]
  exact dj (by unfold lim;omega)
 have:=nW (u:=.fz ys) W (pN (k2.trans (Kp.grow k2.st [ys]))) (.inl (by rw[LW,Z];exact NM _)) (by rw[LW,Z];exact Oh _) (rk (f:=59) (by omega) cB (Y.cl X))
 unfold aP;rw[this, <-Z,List.take_left]
theorem yg{f:D->D->M D}{e1 e2:TM}(Y:e1 ρ S=ar (.ok x,S1))(Z:e2 ρ S1=ar (.ok y,S2))(h:f x y=a_ (.bl b)):dG f e1 e2 ρ S=ar (.ok b,S2):=by
 have:(e1 ρ>>=fun x=>e2 ρ>>=fun y=>f x y) S=ar (.ok (.bl b),S2):=by rw[aO Y,aO Z,h];rfl
 exact aO this
theorem HU{ys:List D}(Z:S[p]? =ar xs)(Y:xs.length+ys.length<=1000):mS (.lst p) [.fz ys] S=ar (.ok .non,S.set p (xs++ys)):=by
 show(getL p>>=fun xs=>lA p (xs++ys)) S=_;rw[aO (cX Z)];exact lp (by rw[LW];unfold lim;omega) (LX.mp Z).1
theorem Dr.rows{n:Nat}:∀{l:List Nat} {ys:List D},Dr (fun d y=>y= .tup [.int a,d]) (l.map fun i:Nat=>D.int ((a:Int)+1+(i:Int))) ys->∃rs:List (List Int),ys=rs.map tupI/\rs.Sublist (l.map fun i:Nat=>[(a:Int),(a:Int)+1+(i:Int)])
 |[],_,.nil=>⟨[],rfl,.slnil⟩
 |i::l,_,.skip h=>by
  obtain⟨rs,e,Z⟩:=Dr.rows (n:=n) h;exact⟨rs,e,Z.cons _⟩
 |i::l,_,.put p h=>by
  obtain⟨rs,e,Z⟩:=Dr.rows (n:=n) h;subst p e;exact⟨[(a:Int),(a:Int)+1+(i:Int)]::rs,rfl,Z.cons₂ _⟩
theorem Fj{n a:Nat}:(ed ((n:Int) - ((a:Int)+1)).toNat).map (fun i:Nat=>[(a:Int),(a:Int)+1+(i:Int)])=uS n a:=by
 have e:((n:Int) - ((a:Int)+1)).toNat=n - (a+1):=by omega
 rw[e];unfold uS;rw[Oo,My];refine Oj fun i _=>?_;show[(a:Int),(a:Int)+1+(i:Int)]=[(a:Int),((a+1+i:Nat):Int)];congr 2
theorem Dt{S:aF}{k n a:Nat}{o:Int}{x3:Option D}(hs:ez S k)(P:n<=14)(R:a<n):∃(rs:List (List Int)) (S2:aF),aP (cq (Hw (aX bK (mV 4) (mK (.int 1))) (mV 1)) (gN 0) fP fQ [none,ar 0,ar 2,ar 4]) [ar (.lst k),ar (.int n),ar (.int o),x3,ar (.int a)] S=ar (.ok (.fz (rs.map tupI)),S2)/\rs.Sublist (uS n a)/\Kp k S S2/\S2.length=S.length:=by
 have hi:=(yb (cQ (f:=bK) (m:=mV 4) (n:=mK (.int 1)) (ρ:=[ar (.lst k),ar (.int n),ar (.int o),x3,ar (.int a)]) (x:=.int a) (y:=.int 1) rfl rfl) (n:=mV 1) (y:=.int n) rfl).trans (HK (i:=(a:Int)+1) (j:=n) (by omega))
 obtain⟨ys,S2,e,T,Z,l⟩:=tx (g:=gN 0) (t:=fP) (m:=fQ) (js:=[none,ar 0,ar 2,ar 4]) (k:=k) (fun ρ=>∃x,ρ=[x,ar (.lst k),ar (.int o),ar (.int a)]) (fun d y=>y= .tup [.int a,d]/\∃i:Int,d= .int i) hi (by unfold bG;rw[LR,Ms];omega) ⟨none,rfl⟩ hs (fun d y ⟨e,i,e2⟩=>by subst e e2;rfl)
  (fun d hd ρ S ⟨x,hρ⟩ hs=>by
   subst hρ;obtain⟨i,_,rfl⟩:=Mp.mp hd;obtain⟨j,S1,W,Q,O,Z,l⟩:=uT (many:=4) hs (by decide) (by decide)
   refine⟨_,decide (j<o),S1,rfl,⟨_,rfl⟩,?_,Z,l,fun _=>⟨_,S1,rfl,⟨rfl,_,rfl⟩,.refl Z.st,rfl⟩⟩;have U:aP (av aw (ae (mV 1) (ae (mK (.int 4)) ao))) [ar (D.int ((a:Int)+1+(i:Int))),ar (.lst k),ar (.int o),ar (.int a)] S=ar (.ok (.int j),S1):=by
    unfold aP;rw[call2 (x:=.lst k) (y:=.int 4) rfl rfl];exact W
   exact yg (y:=.int o) U rfl rfl)
 have Y:Dr (fun d y=>y= .tup [.int a,d]) ((ed ((n:Int) - ((a:Int)+1)).toNat).map fun i:Nat=>D.int ((a:Int)+1+(i:Int))) ys:=by
  have:∀{ds ys:List D},Dr (fun d y=>y= .tup [.int a,d]/\∃i:Int,d= .int i) ds ys->Dr (fun d y=>y= .tup [.int a,d]) ds ys:=fun{ds ys} h=>by
   induction h with
   |nil=>exact .nil
   |skip _ ih=>exact .skip ih
   |put p _ ih=>exact .put p.1 ih
  exact this T
 obtain⟨rs,e2,X⟩:=Dr.rows (n:=n) Y;subst e2;rw[Fj]at X;exact⟨rs,S2,e,X,Z,l⟩
theorem tD{S:aF}{k n:Nat}{o:Int}{its:List D}(T:k<S.length)(O:n<=7):∀(post:List Nat) (acc:List (List Int)) (S':aF) (x:Option D),(∀a∈post,a<n)->acc.length+post.length*7<=100->S'[S.length]? =ar (acc.map tupI)->Kp k S S'->
  ∃(Z:Option D) (rs:List (List Int)) (S2:aF),eG ⟨its,.none⟩ (gN 4) d9 (post.map fun i:Nat=>.int (0+(i:Int))) [ar (.lst k),ar (.int n),ar (.int o),ar (.lst S.length),x] S'=ar (.ok (.nx [ar (.lst k),ar (.int n),ar (.int o),ar (.lst S.length),Z]),S2)/\S2[S.length]? =ar ((acc++rs).map tupI)/\rs.Sublist (post.flatMap (uS n))/\Kp k S S2
 |[],acc,S',x,_,_,g,kp=>⟨x,[],S',by rw[Np,gW];rfl,by rw[MI];exact g,.slnil,kp⟩
 | a::post,acc,S',x,ha,hl,g,kp=>by
  have Y:=ha a (.head _);obtain⟨rs,S1,e,R,k1,N⟩:=Dt (S:=S') (k:=k) (n:=n) (a:=a) (o:=o) (x3:=ar (.lst S.length)) kp.st (by omega) Y
  have Q:rs.length<=7:=Ma R.length_le (by unfold uS;simp;omega)
  rw[Ml,QV]at hl;have P:=(LX.mp g).1;have g1:=(k1.oth S.length P (by omega)).trans g
  have W:d9 [ar (.lst k),ar (.int n),ar (.int o),ar (.lst S.length),ar (.int a)] S'=ar (.ok (.nx [ar (.lst k),ar (.int n),ar (.int o),ar (.lst S.length),ar (.int a)]),S1.set S.length ((acc++rs).map tupI)):=by
   unfold d9;refine nq (x:=.non) ((lO (x:=.lst S.length) rfl rfl e).trans ((HU g1 (by rw[LR,LR];omega)).trans ?_))
   rw[MY]
  obtain⟨Z,U,S2,e2,g2,X,k2⟩:=tD (its:=its) (o:=o) T O post (acc++rs) (S1.set S.length ((acc++rs).map tupI)) (ar (.int a)) (fun b W=>ha b (.tail _ W)) (by rw[LW];omega) (Mo (by omega)) ((kp.trans k1).set (LU _) T)
  refine⟨Z,rs++U,S2,?_,by rw[<-Mr];exact g2,by rw[PH];exact R.append X,k2⟩
  rw[Mh,ND];exact(iV rfl W).trans e2
theorem Du{S:aF}{k n:Nat}{o:Int}(hs:ez S k)(Z:n<=7):∃(E:List (List Int)) (S1:aF),jt (dg [.lst k,.int n,.int o]) S=ar (.ok (ak n E),S1)/\WebOk n E/\Kp k S S1/\S1.length=S.length:=by
 obtain⟨T,rs,S2,e,g,W,U⟩:=tD (S:=S) (k:=k) (n:=n) (o:=o) (its:=bG 0 n) hs.lt Z (ed n) [] (S++[[]]) none (fun a Y=>L9.mp Y) (by rw[Ms];simp;omega) cB (Kp.grow hs _)
 rw[Oz]at g;have w:WebOk n rs:=WebOk.of_sub Z W;have hm:iz [ar (.lst k),ar (.int n),ar (.int o),none,none] S=ar (.ok (.ret (ak n rs)),S2):=by
  unfold iz;have X:bH 3 (bx ao) [ar (.lst k),ar (.int n),ar (.int o),none,none] S=ar (.ok (.nx [ar (.lst k),ar (.int n),ar (.int o),ar (.lst S.length),none]),S++[[]]):=bB (dj (S:=S) (us:=[]) (Mg _));have hi:oJ (mV 1) [ar (.lst k),ar (.int n),ar (.int o),ar (.lst S.length),none]=a_ ⟨bG 0 n,.none⟩:=by
   have:=(nZ (m:=mV 1) (ρ:=[ar (.lst k),ar (.int n),ar (.int o),ar (.lst S.length),none]) (x:=.int n) rfl).trans (yc (by omega))
   rw[MB]at this;exact this
  refine(aL X).trans ((aL (mn hi e)).trans (fW (gQ (x:=.int n) rfl ((jf (x:=.lst S.length) (S1:=S2) rfl).trans ?_))));show(getL S.length>>=fun xs=>bU xs) S2=_;rw[aO (cX g)];unfold bU;rw[if_pos (by rw[LR];have:=w.few;unfold lim;omega)];rfl
 obtain⟨S1,e1,k1⟩:=lN (c:=dg [.lst k,.int n,.int o]) (d:=ak n rs) hs (ff (o:=.ret (ak n rs)) hm rfl) U n8;exact⟨rs,S1,e1,w,k1⟩
def rm(p:Int)(t:List Int):Bool:=t.any (· ==p)
theorem zG(p:Int):∀t:List Int,((t.map q0).any fun y=>gc y (.int p))=rm p t
 |[]=>rfl
 |x::r=>by
  rw[Mh,Qg,zG p r];unfold rm;rw[Qg];congr 1
theorem Dv:inD (.int p) (tupI t)=a_ (.bl (rm p t)):=bW fun S=>by
 unfold inD;exact(yX (je) (lr t) (r:=rm p t) (by show ar (id ((t.map q0).any fun y=>gc y (.int p)))=_;rw[zG];rfl)).mpr ⟨rfl,rfl⟩
theorem Dw{E:List (List Int)}(h:a<E.length):bA (.tup (E.map tupI)) (.int a)=a_ (tupI (E.getD a [])):=by
 show(match kd (E.map tupI) a with|some d=>(a_ d:M D)|none=>M.fail)=_
 have:kd (E.map tupI) (a:Int)=ar (tupI (E.getD a [])):=by
  unfold kd wZ;rw[LR];have Y:¬ ((a:Int)<0):=by omega
  have Z:(a:Int)<E.length:=by omega
  simp[Y,Z,h]
 rw[this]
theorem getD_in{E:List (List Int)}(h:a<E.length):E.getD a []∈E:=by
 rw[LY,LV h];exact M1 h
theorem or_eq{p q:kb}(Y:p ρ=a_ b)(Z:q ρ=a_ c):oH p q ρ=a_ (b||c):=by
 show(p ρ>>=_)=_;rw[Y];cases b with
 |true=>rfl
 |false=>exact Z
section
variable {S:aF}{k n:Nat}{E:List (List Int)}{its:List D}
theorem Fk(W:∀t∈E,∃x y:Int,t=[x,y])(Z:a<E.length)(U:b<E.length):∃c,oH (dG inD (aX bA (aX bA (mV 1) (mV 3)) (mK (.int 0))) (aX bA (mV 1) (mV 4))) (dG inD (aX bA (aX bA (mV 1) (mV 3)) (mK (.int 1))) (aX bA (mV 1) (mV 4))) [ar (ak n E),ar (.tup (E.map tupI)),ar (.lst p),ar (.int a),ar (.int b)]=a_ c:=by
 obtain⟨x,y,e⟩:=W _ (getD_in Z);have Y:aX bA (mV 1) (mV 3) [ar (ak n E),ar (.tup (E.map tupI)),ar (.lst p),ar (.int a),ar (.int b)]=a_ (tupI [x,y]):=by rw[<-e];exact(cQ (x:=.tup (E.map tupI)) (y:=.int a) rfl rfl).trans (Dw Z)
 have X:aX bA (mV 1) (mV 4) [ar (ak n E),ar (.tup (E.map tupI)),ar (.lst p),ar (.int a),ar (.int b)]=a_ (tupI (E.getD b [])):=(cQ (x:=.tup (E.map tupI)) (y:=.int b) rfl rfl).trans (Dw U);have h0:aX bA (aX bA (mV 1) (mV 3)) (mK (.int 0)) [ar (ak n E),ar (.tup (E.map tupI)),ar (.lst p),ar (.int a),ar (.int b)]=a_ (.int x):=(cQ (y:=.int 0) Y rfl).trans rfl;have T:aX bA (aX bA (mV 1) (mV 3)) (mK (.int 1)) [ar (ak n E),ar (.tup (E.map tupI)),ar (.lst p),ar (.int a),ar (.int b)]=a_ (.int y):=(cQ (y:=.int 1) Y rfl).trans rfl;exact⟨_,or_eq (cm h0 X Dv) (cm T X Dv)⟩
theorem uV(W:k<S.length)(X:∀t∈E,∃x y:Int,t=[x,y])(U:a<E.length):∀(post:List Nat) (acc:List (List Int)) (S':aF) (x:Option D),(∀b∈post,b<E.length)->acc.length+post.length<=500->S'[S.length]? =ar (acc.map tupI)->Kp k S S'->
  ∃(Y:Option D) (rs:List (List Int)) (S2:aF),eG ⟨its,.none⟩ (gN 4) eX (post.map fun b:Nat=>.int (b:Int)) [ar (ak n E),ar (.tup (E.map tupI)),ar (.lst S.length),ar (.int a),x] S'=ar (.ok (.nx [ar (ak n E),ar (.tup (E.map tupI)),ar (.lst S.length),ar (.int a),Y]),S2)/\S2[S.length]? =ar ((acc++rs).map tupI)/\rs.Sublist (post.map fun b:Nat=>[(a:Int),(b:Int)])/\Kp k S S2
 |[],acc,S',x,_,_,g,kp=>⟨x,[],S',by rw[Np,gW];rfl,by rw[MI];exact g,.slnil,kp⟩
 | b::post,acc,S',x,hb,hl,g,kp=>by
  rw[Ml]at hl;obtain⟨c,Z⟩:=Fk (n:=n) (p:=S.length) X U (hb b (.head _));have Q:=(LX.mp g).1;cases c with
  |false=>
   have T:eX [ar (ak n E),ar (.tup (E.map tupI)),ar (.lst S.length),ar (.int a),ar (.int b)] S'=ar (.ok (.nx [ar (ak n E),ar (.tup (E.map tupI)),ar (.lst S.length),ar (.int a),ar (.int b)]),S'):=Mz ((bg Z).trans (if_neg (by decide))) S'
   obtain⟨Y,rs,S2,e,g2,R,k2⟩:=uV W X U post acc S' (ar (.int b)) (fun c Z=>hb c (.tail _ Z)) (by omega) g kp
   exact⟨Y,rs,S2,(iV rfl T).trans e,g2,R.cons _,k2⟩
  | true=>
   have T:eX [ar (ak n E),ar (.tup (E.map tupI)),ar (.lst S.length),ar (.int a),ar (.int b)] S'=ar (.ok (.nx [ar (ak n E),ar (.tup (E.map tupI)),ar (.lst S.length),ar (.int a),ar (.int b)]),S'.set S.length ((acc++[[(a:Int),(b:Int)]]).map tupI)):=by
    refine(Mz ((bg Z).trans (if_pos rfl)) S').trans (nq (x:=.non) ((lO (x:=.lst S.length) (y:=.tup [.int a,.int b]) (S1:=S') rfl rfl (gQ rfl rfl)).trans ((oa g (by rw[LR];omega)).trans ?_)))
    rw[MY];rfl
   obtain⟨Y,rs,S2,e,g2,R,k2⟩:=uV W X U post (acc++[[(a:Int),(b:Int)]]) (S'.set S.length ((acc++[[(a:Int),(b:Int)]]).map tupI)) (ar (.int b)) (fun c Z=>hb c (.tail _ Z)) (by rw[LW];show acc.length+1+post.length<=500;omega) (Mo Q) (kp.set (LU _) W)
   exact⟨Y,[(a:Int),(b:Int)]::rs,S2,(iV rfl T).trans e,by rw[Mr]at g2;exact g2,R.cons₂ _,k2⟩
theorem wu(Q:k<S.length)(O:E.length<=7)(R:∀t∈E,∃x y:Int,t=[x,y]):∀(post:List Nat) (acc:List (List Int)) (S':aF) (x y:Option D),(∀b∈post,b<E.length)->acc.length+post.length*7<=100->S'[S.length]? =ar (acc.map tupI)->Kp k S S'->
  ∃(Z Y:Option D) (rs:List (List Int)) (S2:aF),eG ⟨its,.none⟩ (gN 3) iQ (post.map fun i:Nat=>.int (0+(i:Int))) [ar (ak n E),ar (.tup (E.map tupI)),ar (.lst S.length),x,y] S'=ar (.ok (.nx [ar (ak n E),ar (.tup (E.map tupI)),ar (.lst S.length),Z,Y]),S2)/\S2[S.length]? =ar ((acc++rs).map tupI)/\rs.Sublist (post.flatMap (uS E.length))/\Kp k S S2
 |[],acc,S',x,y,_,_,g,kp=>⟨x,y,[],S',by rw[Np,gW];rfl,by rw[MI];exact g,.slnil,kp⟩
 | a::post,acc,S',x,y,ha,hl,g,kp=>by
  rw[Ml,QV]at hl;have W:=ha a (.head _);have hlen:b9 cz (mV 1) [ar (ak n E),ar (.tup (E.map tupI)),ar (.lst S.length),ar (.int a),y]=a_ (.int E.length):=by
   refine(eh (x:=.tup (E.map tupI)) rfl).trans ?_;show a_ (D.int (E.map tupI).length)=_;rw[LR]
  have hi:=(yb (cQ (f:=bK) (m:=mV 3) (n:=mK (.int 1)) (ρ:=[ar (ak n E),ar (.tup (E.map tupI)),ar (.lst S.length),ar (.int a),y]) (x:=.int a) (y:=.int 1) rfl rfl) hlen).trans (HK (i:=(a:Int)+1) (j:=E.length) (by omega))
  have N:bG ((a:Int)+1) ((E.length:Int) - ((a:Int)+1)).toNat=(o_ (a+1) (E.length - (a+1))).map fun b:Nat=>.int (b:Int):=by
   have e:((E.length:Int) - ((a:Int)+1)).toNat=E.length - (a+1):=by omega
   rw[e];unfold bG;rw[Oo,My];refine Oj fun i _=>?_;show D.int ((a:Int)+1+(i:Int))= .int ((a+1+i:Nat):Int);congr 1
  rw[N]at hi;obtain⟨K,rs,S1,e1,g1,P,k1⟩:=uV (S:=S) (k:=k) (n:=n) (its:=(o_ (a+1) (E.length - (a+1))).map fun b:Nat=>.int (b:Int)) Q R W (o_ (a+1) (E.length - (a+1))) acc S' y (fun b U=>by have:=N5.mp U;omega) (by rw[OA];omega) g kp
  have L:rs.length<=7:=Ma P.length_le (by rw[LR,OA];omega)
  obtain⟨Z,Y,T,S2,e2,g2,X,k2⟩:=wu Q O R post (acc++rs) S1 (ar (.int a)) K (fun b U=>ha b (.tail _ U)) (by rw[LW];omega) g1 k1
  refine⟨Z,Y,rs++T,S2,?_,by rw[<-Mr];exact g2,by rw[PH];exact P.append X,k2⟩
  rw[Mh,ND];exact(iV rfl (mn hi e1)).trans e2
theorem Dx(hs:ez S k)(Z:E.length<=7)(Y:∀t∈E,∃x y:Int,t=[x,y]):∃(T:List (List Int)) (S1:aF),f7 [ak n E] S=ar (.ok (ak E.length T),S1)/\WebOk E.length T/\Kp k S S1:=by
 obtain⟨Q,P,rs,S2,e,g,U,R⟩:=wu (S:=S) (k:=k) (n:=n) (its:=bG 0 E.length) hs.lt Z Y (ed E.length) [] (S++[[]]) none none (fun a X=>L9.mp X) (by rw[Ms];simp;omega) cB (Kp.grow hs _)
 rw[Oz]at g;have w:WebOk E.length rs:=WebOk.of_sub Z U;have hlen:∀{x y z:Option D},b9 cz (mV 1) [ar (ak n E),ar (.tup (E.map tupI)),x,y,z]=a_ (.int E.length):=fun{x y z}=>by
  refine(eh (x:=.tup (E.map tupI)) rfl).trans ?_;show a_ (D.int (E.map tupI).length)=_;rw[LR]
 have hm:ja [ar (ak n E),none,none,none,none] S=ar (.ok (.ret (ak E.length rs)),S2):=by
  unfold ja;have h0:bH 1 (aX bA (mV 0) (mK (.int 1))) [ar (ak n E),none,none,none,none] S=ar (.ok (.nx [ar (ak n E),ar (.tup (E.map tupI)),none,none,none]),S):=bB rfl;have W:bH 2 (bx ao) [ar (ak n E),ar (.tup (E.map tupI)),none,none,none] S=ar (.ok (.nx [ar (ak n E),ar (.tup (E.map tupI)),ar (.lst S.length),none,none]),S++[[]]):=bB (dj (S:=S) (us:=[]) (Mg _));have hi:oJ (b9 cz (mV 1)) [ar (ak n E),ar (.tup (E.map tupI)),ar (.lst S.length),none,none]=a_ ⟨bG 0 E.length,.none⟩:=by
   have:=(nZ hlen (ρ:=[ar (ak n E),ar (.tup (E.map tupI)),ar (.lst S.length),none,none])).trans (yc (by omega))
   rw[MB]at this;exact this
  refine(aL h0).trans ((aL W).trans ((aL (mn hi e)).trans (fW (gQ (x:=.int E.length) (S1:=S2) (by rw[hlen];rfl) ((jf (x:=.lst S.length) (S1:=S2) rfl).trans ?_)))))
  show(getL S.length>>=fun xs=>bU xs) S2=_;rw[aO (cX g)];unfold bU;rw[if_pos (by rw[LR];have:=w.few;unfold lim;omega)];rfl
 exact⟨rs,S2,ff (o:=.ret (ak E.length rs)) hm rfl,w,R⟩
end
theorem HV{l:List (List Int)}(h:l.Nodup):(eN l).Pairwise fun a b=>HT.lexLt a b=true:=by
 have X:=dR l;have Z:(eN l).Nodup:=(NH (cu _)).mpr h;generalize eN l=s at X Z
 induction s with
 |nil=>exact .nil
 |cons x r ih=>
  obtain⟨a1,a2⟩:=MR.mp X;obtain⟨W,U⟩:=MM.mp Z;refine MR.mpr ⟨fun y Y=>?_,ih a2 U⟩;cases q:HT.lexLt x y with
  |true=>rfl
  |false=>exact absurd (pL q (a1 y Y) ▸ Y) W
theorem tE(Z:∀r∈nss,r.length=2)(X:nss.length<64):m4 (nss.map tupI)=bJ ((eN nss).map tupI):=by
 cases nss with
 |nil=>rfl
 |cons r nss=>
  have W:two (r::nss)=true:=Mf.mpr fun x Y=>by rw[Z x Y];rfl
  show(match rowsOf ((r::nss).map tupI)with|some nss=>vQ nss|none=>M.fail)=_
  rw[rh];exact if_pos ⟨X,W⟩
theorem og{c:M D}{S2:aF}(h:c S=ar (.ok (.lst S2.length),S2++[us]))(Z:Kp k S S2)(l:S2.length=S.length)(Y:cG 0 us=bc):jt c S=ar (.ok (.fz us),S2):=by
 have:=nW (u:=.fz us) h (pN (Z.trans (Kp.grow Z.st [us]))) (.inl (by rw[LW,l];exact NM _)) (by rw[LW,l];exact Oh _) (rk (f:=59) (by omega) cB Y)
 rw[this, <-l,List.take_left]
theorem tF{Z:List (List Int)}(hs:ez S k)(X:S[p]? =ar (Z.map tupI))(Y:∀r∈Z,r.length=2)(W:Z.length<64):jt (bZ [.lst p]) S=ar (.ok (.fz ((eN Z).map tupI)),S):=by
 refine og ?_ (Kp.refl hs) rfl (jE _);show(getL p>>=fun xs=>m4 xs) S=_;rw[aO (cX X),tE Y W];exact dj (by rw[LR,(cu Z).length_eq];unfold lim;omega)
def Dy(zs:List Int):List Int->List Int
 |[a,b]=>[if zs.getD b.toNat 0<zs.getD a.toNat 0 then zs.getD b.toNat 0 else zs.getD a.toNat 0,if zs.getD b.toNat 0>zs.getD a.toNat 0 then zs.getD b.toNat 0 else zs.getD a.toNat 0]
 |t=>t
theorem fT{zs:List Int}{a:Int}(Z:0<=a)(h:a<zs.length):bA (tupI zs) (.int a)=a_ (.int (zs.getD a.toNat 0)):=by
 show(match kd (zs.map D.int) a with|some d=>(a_ d:M D)|none=>M.fail)=_
 have:kd (zs.map D.int) a=ar (.int (zs.getD a.toNat 0)):=by
  unfold kd wZ;rw[LR];have X:¬ (a<0):=by omega
  have Y:a.toNat<zs.length:=by omega
  simp[Z,h,Y]
 rw[this]
theorem tG{S:aF}{k n:Nat}{zs:List Int}{w0:Option D}{its:List D}(U:k<S.length)(O:zs.length=n):∀(post acc:List (List Int)) (S':aF) (x y:Option D),(∀t∈post,∃a b:Int,t=[a,b]/\0<=a/\a<n/\0<=b/\b<n)->acc.length+post.length<=500->S'[S.length]? =ar (acc.map tupI)->Kp k S S'->
  ∃(Z Y:Option D) (S2:aF),eG ⟨its,.none⟩ (fE 2 (bb (gN 3) (bb (gN 4) dY))) d4 (post.map tupI) [w0,ar (tupI zs),ar (.lst S.length),x,y] S'=ar (.ok (.nx [w0,ar (tupI zs),ar (.lst S.length),Z,Y]),S2)/\S2[S.length]? =ar ((acc++post.map (Dy zs)).map tupI)/\Kp k S S2
 |[],acc,S',x,y,_,_,g,kp=>⟨x,y,S',by rw[Np,gW];rfl,by rw[Np,MI];exact g,kp⟩
 | t::post,acc,S',x,y,ht,hl,g,kp=>by
  rw[Ml]at hl;obtain⟨a,b,rfl,a0,a1,N,K⟩:=ht t (.head _);have P:=(LX.mp g).1;have T:aX bA (mV 1) (mV 3) [w0,ar (tupI zs),ar (.lst S.length),ar (.int a),ar (.int b)]=a_ (.int (zs.getD a.toNat 0)):=(cQ (x:=tupI zs) (y:=.int a) rfl rfl).trans (fT a0 (by omega))
  have R:aX bA (mV 1) (mV 4) [w0,ar (tupI zs),ar (.lst S.length),ar (.int a),ar (.int b)]=a_ (.int (zs.getD b.toNat 0)):=(cQ (x:=tupI zs) (y:=.int b) rfl rfl).trans (fT N (by omega))
  have W:=(call2 (F:=minD) T R).trans rfl;have X:=(call2 (F:=maxD) T R).trans rfl;have Q:d4 [w0,ar (tupI zs),ar (.lst S.length),ar (.int a),ar (.int b)] S'=ar (.ok (.nx [w0,ar (tupI zs),ar (.lst S.length),ar (.int a),ar (.int b)]),S'.set S.length ((acc++[Dy zs [a,b]]).map tupI)):=by
   unfold d4;refine nq (x:=.non) ((lO (x:=.lst S.length) (y:=tupI (Dy zs [a,b])) (S1:=S') rfl rfl (gQ (Mz W S') (Mz X S'))).trans ((oa g (by rw[LR];omega)).trans ?_))
   rw[MY];rfl
  obtain⟨Z,Y,S2,e,g2,k2⟩:=tG (its:=its) (w0:=w0) U O post (acc++[Dy zs [a,b]]) (S'.set S.length ((acc++[Dy zs [a,b]]).map tupI)) (ar (.int a)) (ar (.int b)) (fun u L=>ht u (.tail _ L)) (by rw[LW];show acc.length+1+post.length<=500;omega) (Mo P) (kp.set (LU _) U)
  exact⟨Z,Y,S2,(iV rfl Q).trans e,by rw[Mh, <-List.singleton_append, <-Mr];exact g2,k2⟩
section
variable {n:Nat}{zs:List Int}{E:List (List Int)}
theorem pO(Z:zs.Perm (ij n))(hi:i<n):0<=zs.getD i 0/\zs.getD i 0<n:=by
 have X:zs.length=n:=by rw[Z.length_eq];unfold ij;simp
 have:zs.getD i 0∈ij n:=by
  rw[<-Z.mem_iff,LY,LV (by omega)]
  exact M1 _
 unfold ij at this;obtain⟨j,Y,e⟩:=Mp.mp this;have:=L9.mp Y;omega
theorem Fl(Z:zs.Perm (ij n)):zs.Nodup:=by
 rw[Z.nodup_iff];unfold ij;exact List.Pairwise.map _ (fun a b h e=>h (by have e2:(0:Int)+(a:Int)=0+(b:Int):=e;omega)) (PY (n:=n))
theorem hV(Z:zs.Perm (ij n))(hi:i<n)(X:j<n)(h:zs.getD i 0=zs.getD j 0):i=j:=by
 have Y:zs.length=n:=by rw[Z.length_eq];unfold ij;simp
 rw[LY,LY,LV (by omega),LV (by omega)]at h
 exact(PN (Fl Z)).mp h
theorem JO(Z:zs.Perm (ij n))(w:WebOk n E):(E.map (Dy zs)).Nodup/\∀t∈E.map (Dy zs),∃a b:Int,t=[a,b]/\0<=a/\a<b/\b<n:=by
 constructor
 ·have U:E.Nodup:=w.ris.imp fun{a b} h e=>by subst e;rw[k9]at h;cases h
  refine OK.mpr (List.Pairwise.imp_of_mem (fun{s t} hs X hne e=>hne ?_) U);obtain⟨a,b,rfl,a0,ab,bn⟩:=w.el s hs;obtain⟨c,d,rfl,Q,cd,N⟩:=w.el t X;have e1:=NJ e;have e2:=NJ e1.2;have T:=e1.1;have Y:=e2.1;have k1:zs.getD a.toNat 0≠zs.getD b.toNat 0:=fun z=>by have:=hV Z (i:=a.toNat) (j:=b.toNat) (by omega) (by omega) z;omega
  have k2:zs.getD c.toNat 0≠zs.getD d.toNat 0:=fun z=>by have:=hV Z (i:=c.toNat) (j:=d.toNat) (by omega) (by omega) z;omega
  have ac:=fun z=>hV Z (i:=a.toNat) (j:=c.toNat) (by omega) (by omega) z
  have bd:=fun z=>hV Z (i:=b.toNat) (j:=d.toNat) (by omega) (by omega) z
  have ad:=fun z=>hV Z (i:=a.toNat) (j:=d.toNat) (by omega) (by omega) z
  have R:=fun z=>hV Z (i:=b.toNat) (j:=c.toNat) (by omega) (by omega) z
  generalize zs.getD a.toNat 0=x at*;generalize zs.getD b.toNat 0=y at*;generalize zs.getD c.toNat 0=u at*;generalize zs.getD d.toNat 0=v at*;have key:(x=u/\y=v)\/(x=v/\y=u):=by
   by_cases W:y<x<;>by_cases q2:v<u<;>simp only[W,q2,if_true,if_false]at T Y<;>(split at Y<;>split at Y<;>omega)
  rcases key with⟨z1,z2⟩|⟨z1,z2⟩
  ·have:=ac z1;have:=bd z2;have e3:a=c:=by omega
   have S:b=d:=by omega
   rw[e3,S]
  ·have:=ad z1;have:=R z2;omega
 ·intro t X;obtain⟨s,hs,rfl⟩:=Mp.mp X;obtain⟨a,b,rfl,a0,ab,bn⟩:=w.el s hs;have k1:zs.getD a.toNat 0≠zs.getD b.toNat 0:=fun z=>by have:=hV Z (i:=a.toNat) (j:=b.toNat) (by omega) (by omega) z;omega
  obtain⟨P,L⟩:=pO Z (i:=a.toNat) (by omega)
  obtain⟨O,W⟩:=pO Z (i:=b.toNat) (by omega)
  refine⟨_,_,rfl,?_,?_,?_⟩<;>(generalize zs.getD a.toNat 0=x at*;generalize zs.getD b.toNat 0=y at*;split<;>(try split)<;>omega)
theorem WebOk.sort{T:List (List Int)}(h:T.Nodup)(Z:∀t∈T,∃a b:Int,t=[a,b]/\0<=a/\a<b/\b<m)(Y:T.length<=21):WebOk m (eN T):=
 ⟨fun t X=>Z t ((cu T).mem_iff.mp X),HV h,by rw[(cu T).length_eq];exact Y⟩
theorem tH(hs:ez S k)(Q:zs.Perm (ij n))(w:WebOk n E):∃(T:List (List Int)) (S1:aF),cM [ak n E,tupI zs] S=ar (.ok (ak n T),S1)/\WebOk n T/\T.length=E.length/\Kp k S S1:=by
 have O:zs.length=n:=by rw[Q.length_eq];unfold ij;simp
 have hf:=w.few;obtain⟨W,U,S2,e,g,P⟩:=tG (S:=S) (k:=k) (n:=n) (zs:=zs) (w0:=ar (ak n E)) (its:=E.map tupI) hs.lt O E [] (S++[[]]) none none (fun t N=>by
  obtain⟨a,b,e,Z,J,X⟩:=w.el t N;exact⟨a,b,e,Z,by omega,by omega,X⟩) (by simp;omega) cB (Kp.grow hs _)
 rw[Oz]at g;obtain⟨K,R⟩:=JO Q w;have wT:WebOk n (eN (E.map (Dy zs))):=WebOk.sort K R (by rw[LR];exact hf)
 have Y:=tF P.st g (fun r L=>by obtain⟨a,b,e,_⟩:=R r L;rw[e];rfl) (by rw[LR];omega)
 have hm:iy [ar (ak n E),ar (tupI zs),none,none,none] S=ar (.ok (.ret (ak n (eN (E.map (Dy zs))))),S2):=by
  unfold iy;have Z:bH 2 (bx ao) [ar (ak n E),ar (tupI zs),none,none,none] S=ar (.ok (.nx [ar (ak n E),ar (tupI zs),ar (.lst S.length),none,none]),S++[[]]):=bB (dj (S:=S) (us:=[]) (Mg _));have hi:iq (aX bA (mV 0) (mK (.int 1))) [ar (ak n E),ar (tupI zs),ar (.lst S.length),none,none]=a_ ⟨E.map tupI,.none⟩:=rfl;have X:aP (b9 bZ (mV 2)) [ar (ak n E),ar (tupI zs),ar (.lst S.length),W,U] S2=ar (.ok (.fz ((eN (E.map (Dy zs))).map tupI)),S2):=by
   unfold aP;rw[eh (f:=bZ) (m:=mV 2) (ρ:=[ar (ak n E),ar (tupI zs),ar (.lst S.length),W,U]) (x:=.lst S.length) rfl];exact Y
  refine(aL Z).trans ((aL (mn hi e)).trans (fW (gQ (x:=.int n) (S1:=S2) rfl ((jf X).trans ?_))));rw[qX (by rw[LR];have:=wT.few;unfold lim;omega)];rfl
 exact⟨_,S2,ff (o:=.ret (ak n (eN (E.map (Dy zs))))) hm rfl,wT,by rw[(cu _).length_eq,LR],P⟩
end
theorem yh{ms:aQ->M (List D)}(h:ms ρ S=ar (.ok [d1,d2],S1)):uD i j ms ρ S=ar (.ok (.nx ((ρ.set i (ar d1)).set j (ar d2))),S1):=by
 unfold uD;rw[aO h];rfl
theorem jg{e1 e2:TM}(hs:ez S k)(Y:e1 ρ=a_ (.lst k))(Z:e2 ρ=a_ (.int m))(X:0<m)(W:m<1000):∃j S1,aP (av aw (ae e1 (ae e2 ao))) ρ S=ar (.ok (.int j),S1)/\0<=j/\j<m/\Kp k S S1/\S1.length=S.length:=by
 obtain⟨j,S1,e,r⟩:=uT (many:=m) hs X (by omega)
 refine⟨j,S1,?_,r⟩;unfold aP;rw[call2 Y Z];exact e
theorem wx{e:TM}(hs:ez S k)(W:∀S,ez S k->∃j S1,e ρ S=ar (.ok (.int j),S1)/\0<=j/\j<m/\Kp k S S1/\S1.length=S.length):
  ∃a b S1,aP (b9 bZ (aP (bx (ae e (ae e ao))))) ρ S=ar (.ok (.fz [.int a,.int b]),S1)/\(0<=a/\a<m)/\(0<=b/\b<m)/\Kp k S S1/\S1.length=S.length:=by
 obtain⟨i,S1,e1,O,K,k1,P⟩:=W S hs;obtain⟨j,S2,e2,N,L,k2,Q⟩:=W S1 k1.st;have Z:=k1.trans k2;have Y:=Q.trans P;have R:aP (bx (ae e (ae e ao))) ρ S=ar (.ok (.fz [.int i,.int j]),S2):=og (jX (ys:=[.int i,.int j]) (bP e1 (bP e2 rfl)) qW) Z Y rfl;have X:=sortI_perm [i,j];have hlen:(sortI [i,j]).length=2:=X.length_eq
 match hq:sortI [i,j],hlen with
 |[a,b],_=>
  rw[hq]at X;have U:a=i\/a=j:=by simpa using X.mem_iff.mp (Md ..)
  have T:b=i\/b=j:=by simpa using X.mem_iff.mp (L5 _ (Md ..))
  refine⟨a,b,S2,?_,by rcases U with rfl|rfl<;>exact⟨by assumption,by assumption⟩,by rcases T with rfl|rfl<;>exact⟨by assumption,by assumption⟩,Z,Y⟩
  refine og ((jf R).trans ?_) Z Y rfl;have:bZ [.fz [.int i,.int j]]=bJ ((sortI [i,j]).map D.int):=rfl;rw[this,hq];exact dj qW
def lQ(n:Nat)(T:List (List Int)):Prop:=∀t∈T,∃a b:Int,t=[a,b]/\0<=a/\a<b/\b<n
theorem lQ.snoc{n:Nat}{T:List (List Int)}{a b:Int}(h:lQ n T)(X:0<=a)(Y:a<b)(Z:b<n):lQ n (T++[[a,b]]):=fun t W=>by
 rcases M6.mp W with h'|h'
 ·exact h t h'
 ·exact⟨a,b,by simpa using h',X,Y,Z⟩
section
variable {B:aF}{k n:Nat}{zs:List Int}{its:List D}
abbrev gC(B:aF)(k n:Nat)(zs:List Int)(r:List (Option D)):aQ:=ar (.lst k)::ar (.int 7)::ar (.int n)::ar (tupI zs)::ar (.lst B.length)::r
theorem HW(Q:k<B.length)(L:n<=7)(W:zs.Perm (ij n)):∀(post:List Nat) (acc:List (List Int)) (S':aF) (x5 x6 x7 x8 x9 x10:Option D),(∀a∈post,1<=a/\a<n)->acc.length+post.length<=100->lQ n acc->S'[B.length]? =ar (acc.map tupI)->Kp k B S'->
  ∃(T S U:Option D) (Z:List (List Int)) (S2:aF),eG ⟨its,.none⟩ (gN 5) bX (post.map fun b:Nat=>.int (b:Int)) (gC B k n zs [x5,x6,x7,x8,x9,x10]) S'=ar (.ok (.nx (gC B k n zs [T,S,U,x8,x9,x10])),S2)/\S2[B.length]? =ar (Z.map tupI)/\lQ n Z/\Z.length<=acc.length+post.length/\Kp k B S2
 |[],acc,S',x5,x6,x7,x8,x9,x10,_,_,gt,g,kp=>⟨x5,x6,x7,acc,S',by rw[Np,gW];rfl,g,gt,LU _,kp⟩
 | a::post,acc,S',x5,x6,x7,x8,x9,x10,ha,hl,gt,g,kp=>by
  rw[Ml]at hl⊢;obtain⟨a1,a2⟩:=ha a (.head _);have J:zs.length=n:=by rw[W.length_eq];unfold ij;simp
  obtain⟨j,S1,H,E,A,k1,t⟩:=jg (e1:=mV 0) (e2:=mK (.int 8)) (ρ:=gC B k n zs [ar (.int a),x6,x7,x8,x9,x10]) (m:=8) kp.st rfl rfl (by decide) (by decide)
  have K:=(LX.mp g).1;have g1:=(k1.oth B.length K (by omega)).trans g
  have N:dG FP (aP (av aw (ae (mV 0) (ae (mK (.int 8)) ao)))) (mK (.int 0)) (gC B k n zs [ar (.int a),x6,x7,x8,x9,x10]) S'=ar (.ok (decide (0<j)),S1):=yg (y:=.int 0) H rfl rfl;by_cases hj:0<j
  ·obtain⟨i,S2,I,G,u,k2,w⟩:=jg (e1:=mV 0) (e2:=mV 5) (ρ:=gC B k n zs [ar (.int a),x6,x7,x8,x9,x10]) (m:=a) k1.st rfl rfl (by omega) (by omega)
   have g2:=(k2.oth B.length (by omega) (by omega)).trans g1
   have v1:aX bA (mV 3) (mV 5) (gC B k n zs [ar (.int a),x6,x7,x8,x9,x10]) S1=ar (.ok (.int (zs.getD a 0)),S1):=by
    rw[cQ (x:=tupI zs) (y:=.int a) rfl rfl,fT (by omega) (by omega),MB];rfl
   have v2:aX bA (mV 3) (aP (av aw (ae (mV 0) (ae (mV 5) ao)))) (gC B k n zs [ar (.int a),x6,x7,x8,x9,x10]) S1=ar (.ok (.int (zs.getD i.toNat 0)),S2):=by
    rw[hU (f:=bA) (x:=tupI zs) (S1:=S1) rfl I,fT G (by omega)];rfl
   have F:zs.getD a 0≠zs.getD i.toNat 0:=fun z=>by have:=hV W (i:=a) (j:=i.toNat) a2 (by omega) z;omega
   obtain⟨s,C⟩:=pO W (i:=a) a2;obtain⟨r,v⟩:=pO W (i:=i.toNat) (by omega)
   have P:bX (gC B k n zs [ar (.int a),x6,x7,x8,x9,x10]) S'=ar (.ok (.nx (gC B k n zs [ar (.int a),ar (.int (zs.getD a 0)),ar (.int (zs.getD i.toNat 0)),x8,x9,x10])),S2.set B.length ((acc++[[if zs.getD i.toNat 0<zs.getD a 0 then zs.getD i.toNat 0 else zs.getD a 0,if zs.getD i.toNat 0>zs.getD a 0 then zs.getD i.toNat 0 else zs.getD a 0]]).map tupI)):=by
    unfold bX;rw[rf N,if_pos (L8 hj)];refine(aL (yh (bP v1 (bP v2 rfl)))).trans (nq (x:=.non) ((lO (x:=.lst B.length) (y:=tupI [if zs.getD i.toNat 0<zs.getD a 0 then zs.getD i.toNat 0 else zs.getD a 0,if zs.getD i.toNat 0>zs.getD a 0 then zs.getD i.toNat 0 else zs.getD a 0]) (S1:=S2) rfl rfl (gQ rfl rfl)).trans ((oa g2 (by rw[LR];omega)).trans ?_)))
    rw[MY];rfl
   obtain⟨T,S,U,Z,X,e3,g3,Y,O,k3⟩:=HW Q L W post (acc++[[if zs.getD i.toNat 0<zs.getD a 0 then zs.getD i.toNat 0 else zs.getD a 0,if zs.getD i.toNat 0>zs.getD a 0 then zs.getD i.toNat 0 else zs.getD a 0]]) (S2.set B.length ((acc++[[if zs.getD i.toNat 0<zs.getD a 0 then zs.getD i.toNat 0 else zs.getD a 0,if zs.getD i.toNat 0>zs.getD a 0 then zs.getD i.toNat 0 else zs.getD a 0]]).map tupI)) (ar (.int a)) (ar (.int (zs.getD a 0))) (ar (.int (zs.getD i.toNat 0))) x8 x9 x10 (fun b R=>ha b (.tail _ R))
    (by rw[LW];show acc.length+1+post.length<=100;omega) (gt.snoc (by split<;>omega) (by split<;>split<;>omega) (by split<;>omega)) (Mo (by omega)) ((((kp.trans k1).trans k2)).set (LU _) Q)
   refine⟨T,S,U,Z,X,(iV rfl P).trans e3,g3,Y,?_,k3⟩;rw[LW]at O;have:[[if zs.getD i.toNat 0<zs.getD a 0 then zs.getD i.toNat 0 else zs.getD a 0,if zs.getD i.toNat 0>zs.getD a 0 then zs.getD i.toNat 0 else zs.getD a 0]].length=1:=rfl;omega
  ·have P:bX (gC B k n zs [ar (.int a),x6,x7,x8,x9,x10]) S'=ar (.ok (.nx (gC B k n zs [ar (.int a),x6,x7,x8,x9,x10])),S1):=by
    unfold bX;rw[rf N,if_neg (by rw[Mu];exact hj)];rfl
   obtain⟨T,S,U,Z,X,e3,g3,Y,O,k3⟩:=HW Q L W post acc S1 (ar (.int a)) x6 x7 x8 x9 x10 (fun b R=>ha b (.tail _ R)) (by omega) gt g1 (kp.trans k1)
   exact⟨T,S,U,Z,X,(iV rfl P).trans e3,g3,Y,by omega,k3⟩
theorem HX(Q:k<B.length)(L:n<=7)(R:1<=n):∀(post:List Nat) (acc:List (List Int)) (S':aF) (x5 x6 x7 x8 x9 x10:Option D),acc.length+post.length<=100->lQ n acc->S'[B.length]? =ar (acc.map tupI)->Kp k B S'->
  ∃(T U Y:Option D) (Z:List (List Int)) (S2:aF),eG ⟨its,.none⟩ (gN 8) bY (post.map fun b:Nat=>.int (0+(b:Int))) (gC B k n zs [x5,x6,x7,x8,x9,x10]) S'=ar (.ok (.nx (gC B k n zs [x5,x6,x7,T,U,Y])),S2)/\S2[B.length]? =ar (Z.map tupI)/\lQ n Z/\Z.length<=acc.length+post.length/\Kp k B S2
 |[],acc,S',x5,x6,x7,x8,x9,x10,_,gt,g,kp=>⟨x8,x9,x10,acc,S',by rw[Np,gW];rfl,g,gt,LU _,kp⟩
 | t::post,acc,S',x5,x6,x7,x8,x9,x10,hl,gt,g,kp=>by
  rw[Ml]at hl⊢;obtain⟨a,b,S1,e,⟨a0,a1⟩,⟨I,J⟩,k1,H⟩:=wx (e:=aP (av aw (ae (mV 0) (ae (mV 2) ao)))) (ρ:=gC B k n zs [x5,x6,x7,ar (.int t),x9,x10]) (m:=n) kp.st fun S hs=>jg hs rfl rfl (by omega) (by omega)
  have K:=(LX.mp g).1;have g1:=(k1.oth B.length K (by omega)).trans g
  have h0:kB (aP (b9 bZ (aP (bx (ae (aP (av aw (ae (mV 0) (ae (mV 2) ao)))) (ae (aP (av aw (ae (mV 0) (ae (mV 2) ao)))) ao)))))) (qL 2 (bb (gN 9) (bb (gN 10) dY))) (gC B k n zs [x5,x6,x7,ar (.int t),x9,x10]) S'=ar (.ok (.nx (gC B k n zs [x5,x6,x7,ar (.int t),ar (.int a),ar (.int b)])),S1):=yd e rfl;have N:dG lB (mV 9) (mV 10) (gC B k n zs [x5,x6,x7,ar (.int t),ar (.int a),ar (.int b)])=a_ (decide (a<b)):=cm (x:=.int a) (y:=.int b) rfl rfl rfl;by_cases hab:a<b
  ·have P:bY (gC B k n zs [x5,x6,x7,ar (.int t),x9,x10]) S'=ar (.ok (.nx (gC B k n zs [x5,x6,x7,ar (.int t),ar (.int a),ar (.int b)])),S1.set B.length ((acc++[[a,b]]).map tupI)):=by
    unfold bY;refine(aL h0).trans ((Mz ((bg N).trans (if_pos (L8 hab))) S1).trans (nq (x:=.non) ((lO (x:=.lst B.length) (y:=tupI [a,b]) (S1:=S1) rfl rfl (gQ rfl rfl)).trans ((oa g1 (by rw[LR];omega)).trans ?_))))
    rw[MY];rfl
   obtain⟨T,U,Y,Z,W,e3,g3,X,O,k3⟩:=HX Q L R post (acc++[[a,b]]) (S1.set B.length ((acc++[[a,b]]).map tupI)) x5 x6 x7 (ar (.int t)) (ar (.int a)) (ar (.int b)) (by rw[LW];show acc.length+1+post.length<=100;omega) (gt.snoc a0 hab J) (Mo (by omega)) ((kp.trans k1).set (LU _) Q)
   refine⟨T,U,Y,Z,W,?_,g3,X,?_,k3⟩
   ·rw[Mh,ND];exact(iV rfl P).trans e3
   ·rw[LW]at O;have:[[a,b]].length=1:=rfl;omega
  ·have P:bY (gC B k n zs [x5,x6,x7,ar (.int t),x9,x10]) S'=ar (.ok (.nx (gC B k n zs [x5,x6,x7,ar (.int t),ar (.int a),ar (.int b)])),S1):=by
    unfold bY;exact(aL h0).trans (Mz ((bg N).trans (if_neg (by rw[Mu];exact hab))) S1)
   obtain⟨T,U,Y,Z,W,e3,g3,X,O,k3⟩:=HX Q L R post acc S1 x5 x6 x7 (ar (.int t)) (ar (.int a)) (ar (.int b)) (by omega) gt g1 (kp.trans k1)
   refine⟨T,U,Y,Z,W,?_,g3,X,by omega,k3⟩
   rw[Mh,ND];exact(iV rfl P).trans e3
end
theorem HY{e:TM}(h:e ρ S=ar (.ok x,S1)):oJ e ρ S=l9 [x] S1:=by
 unfold oJ;rw[aO (bP h rfl)]
theorem Fm{mi:aQ->M Iter}(hi:mi ρ S=ar (.ok ⟨its,.none⟩,S1))(h:eG ⟨its,.none⟩ g b its ρ S1=ar (.ok o,S2)):jB mi g b ρ S=ar (.ok o,S2):=by
 unfold jB;rw[aO hi];exact h
theorem JP(l:List D)(m:Nat):S3.cutD l none (ar (m:Int))=l.take m:=by
 unfold S3.cutD;rw[HT.sIx_none,HT.sIx_nat,Qj,Nat.sub_zero];by_cases h:m<=l.length
 ·rw[Nat.min_eq_left h]
 ·rw[Nat.min_eq_right (by omega),OD (LU _),OD (by omega)]
theorem lQ.two(h:lQ n T):∀r∈T,r.length=2:=fun r Z=>by obtain⟨a,b,rfl,_⟩:=h r Z;rfl
theorem Fo{B:aF}{Z:List (List Int)}(hs:ez S k)(g:S[B.length]? =ar (Z.map tupI))(X:lQ n Z)(T:Z.length<=18):
  b9 cY (aP (b9 bZ (aP (nE (aP (b9 iK (mV 4))) oN (oS (mV 1)))))) (gC B k n zs r) S=ar (.ok (.tup (((fF Z).take 7).map tupI)),S)/\WebOk n ((fF Z).take 7):=by
 have w:WebOk n ((fF Z).take 7):=⟨fun t W=>X t (tq.mp (List.mem_of_mem_take W)),(A0 Z).sublist (Pq _ _),by rw[MK];omega⟩
 refine⟨?_,w⟩;have R:aP (b9 iK (mV 4)) (gC B k n zs r) S=ar (.ok (.fz ((fF Z).map tupI)),S):=by
  refine og ((jf (x:=.lst B.length) (S1:=S) rfl).trans ?_) (Kp.refl hs) rfl (jE _);show(getL B.length>>=fun xs=>match rowsOf xs with|some nss=>dO nss|none=>M.fail) S=_
  rw[aO (cX g),rh];have W:two Z=true:=Mf.mpr fun x Y=>by rw[X.two x Y];rfl
  show dO Z S=_;unfold dO;rw[if_pos ⟨T,W⟩];exact dj (by rw[LR];have:=AZ Z;unfold lim;omega)
 have U:aP (nE (aP (b9 iK (mV 4))) oN (oS (mV 1))) (gC B k n zs r) S=ar (.ok (.fz (((fF Z).take 7).map tupI)),S):=by
  refine og ?_ (Kp.refl hs) rfl (jE _);unfold nE;rw[aO R];show bJ (S3.cutD ((fF Z).map tupI) none (ar ((7:Nat):Int))) S=_;rw[JP, <-Qe];exact dj (by rw[LR,MK];unfold lim;omega)
 have Q:aP (b9 bZ (aP (nE (aP (b9 iK (mV 4))) oN (oS (mV 1))))) (gC B k n zs r) S=ar (.ok (.fz (((fF Z).take 7).map tupI)),S):=by
  refine og ((jf U).trans ?_) (Kp.refl hs) rfl (jE _);show m4 (((fF Z).take 7).map tupI) S=_;rw[tE (fun x Y=>X.two x (tq.mp (List.mem_of_mem_take Y))) (by rw[MK];omega),AX w.ris]
  exact dj (by rw[LR,MK];unfold lim;omega)
 refine(jf Q).trans ?_;rw[qX (by rw[LR,MK];unfold lim;omega)];rfl
theorem HZ(hs:ez S k):∃(n:Nat) (E:List (List Int)) (S1:aF),jt (cf [.lst k,.int 7]) S=ar (.ok (ak n E),S1)/\n<=7/\WebOk n E/\E.length<=7/\Kp k S S1/\S1.length=S.length:=by
 obtain⟨j,S1,h,j0,j1,k1,l1⟩:=jg (e1:=mV 0) (e2:=av minD (ae (mK (.int 7)) (ae (aX bK (mV 1) (mK (.int 1))) ao))) (ρ:=[ar (.lst k),ar (.int 7),none,none,none,none,none,none,none,none,none]) (m:=7) hs rfl ((call2 (x:=.int 7) (y:=.int 8) rfl rfl).trans rfl) (by decide) (by decide)
 obtain⟨n,hn⟩:∃n:Nat,1+j=n:=⟨(1+j).toNat,by omega⟩
 have Y:n<=7:=by omega
 obtain⟨zs,B,em,hz,k2,l2⟩:=rl (n:=n) k1.st (by omega)
 have F:k<B.length:=by have:=hs.lt;omega
 have K:=k2.st;have J:Hw (mK (.int 1)) (mV 2) (gC B k n zs [none,none,none,none,none,none])=a_ ⟨(o_ 1 (n - 1)).map fun b:Nat=>.int (b:Int),.none⟩:=by
  refine((yb (x:=.int 1) (y:=.int n) rfl rfl).trans (HK (by omega))).trans ?_
  congr 2;have e:((n:Int) - 1).toNat=n - 1:=by omega
  rw[e];unfold bG;rw[Oo,My];refine Oj fun i _=>?_;show D.int (1+(i:Int))= .int ((1+i:Nat):Int);congr 1
 obtain⟨T,R,U,X,N,e3,g3,Q,O,k3⟩:=HW (B:=B) (k:=k) (n:=n) (zs:=zs) (its:=(o_ 1 (n - 1)).map fun b:Nat=>.int (b:Int)) F Y hz (o_ 1 (n - 1)) [] (B++[[]]) none none none none none none (fun a v=>by have:=N5.mp v;omega) (by rw[OA];simp;omega) (fun t s=>by cases s) cB (Kp.grow K _)
 rw[OA]at O;obtain⟨i,W,p,i0,i1,G,l4⟩:=jg (e1:=mV 0) (e2:=mK (.int 4)) (ρ:=gC B k n zs [T,R,U,none,none,none]) (m:=4) k3.st rfl rfl (by decide) (by decide)
 have q:=(G.oth B.length (LX.mp g3).1 (by omega)).trans g3
 have L:oJ (aP (av aw (ae (mV 0) (ae (mK (.int 4)) ao)))) (gC B k n zs [T,R,U,none,none,none]) N=ar (.ok ⟨bG 0 i.toNat,.none⟩,W):=by
  rw[HY p,yc (by omega)];rfl
 obtain⟨y8,g,I,Z,H,l,g5,P,z,k5⟩:=HX (B:=B) (k:=k) (n:=n) (zs:=zs) (its:=bG 0 i.toNat) F Y (by omega) (ed i.toNat) X W T R U none none none (by rw[Ms];simp at O;omega) Q q (k3.trans G)
 rw[Ms]at z;simp at O;obtain⟨A,w⟩:=Fo (zs:=zs) (r:=[T,R,U,y8,g,I]) k5.st g5 P (by omega)
 have hm:fS [ar (.lst k),ar (.int 7),none,none,none,none,none,none,none,none,none] S=ar (.ok (.ret (ak n ((fF Z).take 7))),H):=by
  unfold fS;have s1:aX bK (mK (.int 1)) (aP (av aw (ae (mV 0) (ae (av minD (ae (mK (.int 7)) (ae (aX bK (mV 1) (mK (.int 1))) ao))) ao)))) [ar (.lst k),ar (.int 7),none,none,none,none,none,none,none,none,none] S=ar (.ok (.int n),S1):=by
   rw[hU (f:=bK) (x:=.int 1) (S1:=S) rfl h, <-hn];rfl
  have s2:aP (av bM (ae (mV 0) (ae (mV 2) ao))) [ar (.lst k),ar (.int 7),ar (.int n),none,none,none,none,none,none,none,none] S1=ar (.ok (tupI zs),B):=by
   unfold aP;rw[call2 (x:=.lst k) (y:=.int n) rfl rfl];exact em
  have s3:bH 4 (bx ao) [ar (.lst k),ar (.int 7),ar (.int n),ar (tupI zs),none,none,none,none,none,none,none] B=ar (.ok (.nx (gC B k n zs [none,none,none,none,none,none])),B++[[]]):=bB (dj (S:=B) (us:=[]) (Mg _));exact(aL (bB s1)).trans ((aL (bB s2)).trans ((aL s3).trans ((aL (mn J e3)).trans ((aL (Fm L l)).trans (fW (gQ (x:=.int n) (S1:=H) rfl A))))))
 obtain⟨u,e6,C⟩:=lN (c:=cf [.lst k,.int 7]) (d:=ak n ((fF Z).take 7)) hs (ff (o:=.ret (ak n ((fF Z).take 7))) hm rfl) ((k1.trans k2).trans k5) n8;exact⟨n,_,u,e6,Y,w,by rw[MK];omega,C⟩
theorem iW{F:List D->M D}{e1 e2 e3:TM}(X:e1 ρ=a_ x)(Z:e2 ρ=a_ y)(Y:e3 ρ=a_ z):av F (ae e1 (ae e2 (ae e3 ao))) ρ=F [x,y,z]:=by
 unfold av;rw[a7 X (a7 Z (a7 Y rfl)),ay]
theorem kP:∀s t:List Int,s_ (s.map q0) (t.map q0)=decide (s=t)
 |[],[]=>by simp[s_]
 |[],_::_=>by simp[s_]
 |_::_,[]=>by simp[s_]
 |x::s,y::t=>by
  rw[Mh,Mh];unfold s_;rw[kP s t,Oy];simp[gc]
theorem Ia:ib (tupI s) (tupI t)=a_ (.bl (!decide (s=t))):=bW fun S=>by
 unfold ib;refine(gU (lr s) (lr t)).mpr ⟨?_,rfl⟩;have:gc (jZ s) (jZ t)=decide (s=t):=by
  unfold jZ gc;exact kP s t
 rw[this]
def Lu(a b:Int):D->Bool
 | .tup [.int x,.int y]=> !decide ([x,y]=[a,b])
 |_=>c_
theorem six{v:Int}(Y:0<=i)(Z:i<6):∃u:Int,kd [D.int 0,.int 0,.int 1,.int 2,.int 3,.int 7] i=ar (.int u)/\0<=u/\u<=7:=by
 obtain⟨d,e,hd⟩:=Dn (xs:=[D.int 0,.int 0,.int 1,.int 2,.int 3,.int 7]) Y Z;simp only[f_,fb,or_false]at hd;rcases hd with rfl|rfl|rfl|rfl|rfl|rfl<;>exact⟨_,e,by decide,by decide⟩
abbrev fC(k:Nat)(r:List (Option D)):aQ:=ar (.lst k)::ar (.int 7)::r
abbrev m6:TM:=aP (bx (aN (mK (.int 0)) (aN (mK (.int 0)) (aN (mK (.int 1)) (aN (mK (.int 2)) (aN (mK (.int 3)) (aN (mV 1) ao)))))))
theorem Fp(hs:ez S k):∃(n:Nat) (E:List (List Int)) (S1:aF),aH (bH 3 (aX Al (mV 1) (aX bA m6 (aP (av aw (ae (mV 0) (ae (mK (.int 6)) ao))))))) (bp (aP (av dg (ae (mV 0) (ae (av maxD (ae (mK (.int 0)) (ae (mV 3) ao))) (ae (aX bK (mV 2) (mK (.int 1))) ao)))))) (fC k [ar (.int j),x3,x4,x5,x6,x7]) S=ar (.ok (.ret (ak n E)),S1)/\n<=7/\WebOk n E/\Kp k S S1:=by
 obtain⟨i,S1,X,U,P,k1,K⟩:=jg (e1:=mV 0) (e2:=mK (.int 6)) (ρ:=fC k [ar (.int j),x3,x4,x5,x6,x7]) (m:=6) hs rfl rfl (by decide) (by decide)
 obtain⟨u,Q,N,O⟩:=six (v:=0) U P;obtain⟨n,T⟩:∃n:Nat,7 - u=n:=⟨(7 - u).toNat,by omega⟩
 obtain⟨E,S2,e2,w,k2,L⟩:=Du (n:=n) (o:=j+1) k1.st (by omega)
 refine⟨n,E,S2,?_,by omega,w,k1.trans k2⟩
 have R:m6 (fC k [ar (.int j),x3,x4,x5,x6,x7])=a_ (.fz [.int 0,.int 0,.int 1,.int 2,.int 3,.int 7]):=cL (us:=[.int 0,.int 0,.int 1,.int 2,.int 3,.int 7]) rfl (by show 6<=lim;unfold lim;omega)
 have W:aX bA m6 (aP (av aw (ae (mV 0) (ae (mK (.int 6)) ao)))) (fC k [ar (.int j),x3,x4,x5,x6,x7]) S=ar (.ok (.int u),S1):=by
  refine(hU (Mz R S) X).trans ?_;show(match kd [D.int 0,.int 0,.int 1,.int 2,.int 3,.int 7] i with|some d=>(a_ d:M D)|none=>M.fail) S1=_
  rw[Q];rfl
 have Y:aX Al (mV 1) (aX bA m6 (aP (av aw (ae (mV 0) (ae (mK (.int 6)) ao))))) (fC k [ar (.int j),x3,x4,x5,x6,x7]) S=ar (.ok (.int n),S1):=by
  rw[hU (f:=Al) (x:=.int 7) (S1:=S) rfl W, <-T];rfl
 have Z:av maxD (ae (mK (.int 0)) (ae (mV 3) ao)) (fC k [ar (.int j),ar (.int n),x4,x5,x6,x7])=a_ (.int n):=by
  refine(call2 (x:=.int 0) (y:=.int n) rfl rfl).trans ?_;have:(if (n:Int)>0 then (n:Int)else 0)=n:=by split<;>omega
  show a_ (D.int (if (n:Int)>0 then (n:Int)else 0))=a_ (D.int n);rw[this]
 exact(aL (bB Y)).trans (fW ((Mz (N4 jt (iW (F:=dg) (e1:=mV 0) (e3:=aX bK (mV 2) (mK (.int 1))) (x:=.lst k) (z:=.int (j+1)) rfl Z rfl)) S1).trans e2))
theorem wy{α:Type}{p:α->Bool}:∀{l:List α},(l.filter p).length=l.length->∀x∈l,p x=bc
 |[],_,x,h=>by cases h
 | a::l,h,x,hx=>by
  cases q:p a with
  |true=>
   rw[NK q,Ml,Ml]at h;rcases Me.mp hx with rfl|hx
   ·exact q
   ·exact wy (by omega) x hx
  |false=>
   rw[NL (by rw[q];decide),Ml]at h
   have:=Ny p l;omega
theorem A1{T:List (List Int)}{a b:Int}(Z:∀t∈T,∃x y:Int,t=[x,y]):(T.map tupI).filter (Lu a b)=(T.filter fun t=> !decide (t=[a,b])).map tupI:=by
 rw[List.filter_map];congr 1;refine List.filter_congr fun t Y=>?_;obtain⟨x,y,rfl⟩:=Z t Y;rfl
theorem yi{α:Type} [DecidableEq α]:∀{l m:List α},l.Nodup->(∀x∈l,x∈m)->l.length<=m.length
 |[],_,_,_=>Mg _
 |x::l,m,h,hs=>by
  obtain⟨W,X⟩:=MM.mp h;have Y:=hs x (.head _);have:=yi (l:=l) (m:=m.erase x) X fun y Z=>(List.mem_erase_of_ne (fun(e:y=x)=>W (by rw[<-e];exact Z))).mpr (hs y (.tail _ Z))
  rw[List.length_erase_of_mem Y]at this;have:=List.length_pos_of_mem Y;rw[Ml];omega
theorem A3{n:Nat}{a b:Int}(Z:0<=a)(X:a<b)(Y:b<n):[a,b]∈jY n:=by
 unfold jY uS;refine List.mem_flatMap.mpr ⟨a.toNat,L9.mpr (by omega),Mp.mpr ⟨b.toNat,N5.mpr (by omega),?_⟩⟩
 rw[Int.toNat_of_nonneg Z,Int.toNat_of_nonneg (by omega)]
theorem JQ{n:Nat}{G:List (List Int)}(Y:n<=7)(W:G.Nodup)(T:∀t∈G,∃a b:Int,t=[a,b]/\0<=a/\a<b/\b<n):G.length<=21:=
 Ma (yi W fun t U=>by obtain⟨a,b,rfl,h0,X,Z⟩:=T t U;exact A3 h0 X Z) (n6 Y).2
theorem Fq{S:aF}{k n:Nat}{j:Int}{x3 x5 x6 x7:Option D}{T:List (List Int)}(hs:ez S k)(hn:2<=n)(K:n<=7)(w:WebOk n T):∃(E:List (List Int)) (S1:aF),aH (kB (aP (b9 bZ (aP (bx (ae (aP (av aw (ae (mV 0) (ae (aX bA (mV 4) (mK (.int 0))) ao)))) (ae (aP (av aw (ae (mV 0) (ae (aX bA (mV 4) (mK (.int 0))) ao)))) ao)))))) (qL 2 (bb (gN 5) (bb (gN 6) dY)))) (aH (bH 7 (cq (iq (aX bA (mV 4) (mK (.int 1)))) (gN 0) fH fJ [none,ar 5,ar 6])) (aH (il (AH (dG lB (mV 5) (mV 6)) (dG rR (b9 cz (mV 7)) (b9 cz (aX bA (mV 4) (mK (.int 1)))))) (nF (xQ dE (mV 7) (dZ (ae (mV 5) (ae (mV 6) ao))))) cK) (bp (dZ (ae (aX bA (mV 4) (mK (.int 0))) (ae (b9 cY (aP (b9 bZ (mV 7)))) ao)))))) (fC k [ar (.int j),x3,ar (ak n T),x5,x6,x7]) S=ar (.ok (.ret (ak n E)),S1)/\WebOk n E/\Kp k S S1:=by
 obtain⟨a,b,S1,e1,⟨a0,a1⟩,⟨b0,i⟩,k1,l1⟩:=wx (e:=aP (av aw (ae (mV 0) (ae (aX bA (mV 4) (mK (.int 0))) ao)))) (ρ:=fC k [ar (.int j),x3,ar (ak n T),x5,x6,x7]) (m:=n) hs fun S hs=>jg hs rfl rfl (by omega) (by omega)
 have hT:=w.few;have B:∀t∈T,∃x y:Int,t=[x,y]:=fun t X=>by obtain⟨x,y,e,_⟩:=w.el t X;exact⟨x,y,e⟩
 have O:T.Nodup:=w.ris.imp fun{a b} h e=>by subst e;rw[k9]at h;cases h
 have z:cq (iq (aX bA (mV 4) (mK (.int 1)))) (gN 0) fH fJ [none,ar 5,ar 6] (fC k [ar (.int j),x3,ar (ak n T),ar (.int a),ar (.int b),x7])=bJ ((T.filter fun t=> !decide (t=[a,b])).map tupI):=by
  have hi:iq (aX bA (mV 4) (mK (.int 1))) (fC k [ar (.int j),x3,ar (ak n T),ar (.int a),ar (.int b),x7])=a_ ⟨T.map tupI,.none⟩:=rfl;unfold cq;rw[hi,ay,show j9 [none,ar 5,ar 6] (fC k [ar (.int j),x3,ar (ak n T),ar (.int a),ar (.int b),x7])=[none,ar (.int a),ar (.int b)]from rfl,uJ (fun ρ=>∃x,ρ=[x,ar (.int a),ar (.int b)]) (Lu a b) id (by rw[LR];unfold lim;omega) ⟨none,rfl⟩,ay,Rb,A1 B]
  rintro d hd ρ ⟨x,rfl⟩;obtain⟨t,X,rfl⟩:=Mp.mp hd;obtain⟨x,y,rfl⟩:=B t X;exact⟨_,rfl,⟨_,rfl⟩,cm (x:=tupI [x,y]) (y:=tupI [a,b]) rfl rfl Ia,fun _=>rfl⟩
 generalize hF:(T.filter fun t=> !decide (t=[a,b]))=F at z;have Z:F.Sublist T:=by rw[<-hF];exact List.filter_sublist
 have o:=Z.length_le;have hk:k<S1.length:=by have:=hs.lt;omega
 have s1:kB (aP _) (qL 2 (bb (gN 5) (bb (gN 6) dY))) (fC k [ar (.int j),x3,ar (ak n T),x5,x6,x7]) S=ar (.ok (.nx (fC k [ar (.int j),x3,ar (ak n T),ar (.int a),ar (.int b),x7])),S1):=yd e1 rfl;have s2:bH 7 (cq (iq (aX bA (mV 4) (mK (.int 1)))) (gN 0) fH fJ [none,ar 5,ar 6]) (fC k [ar (.int j),x3,ar (ak n T),ar (.int a),ar (.int b),x7]) S1=ar (.ok (.nx (fC k [ar (.int j),x3,ar (ak n T),ar (.int a),ar (.int b),ar (.lst S1.length)])),S1++[F.map tupI]):=bB ((Mz z S1).trans (dj (by rw[LR];unfold lim;omega)))
 have Q:b9 cz (mV 7) (fC k [ar (.int j),x3,ar (ak n T),ar (.int a),ar (.int b),ar (.lst S1.length)]) (S1++[F.map tupI])=ar (.ok (.int F.length),S1++[F.map tupI]):=by
  refine(jf (x:=.lst S1.length) (S1:=S1++[F.map tupI]) rfl).trans ?_;show(getL S1.length>>=fun xs=>a_ (D.int xs.length)) _=_;rw[aO (cX cB),LR];rfl
 have R:b9 cz (aX bA (mV 4) (mK (.int 1))) (fC k [ar (.int j),x3,ar (ak n T),ar (.int a),ar (.int b),ar (.lst S1.length)])=a_ (.int T.length):=by
  refine(eh (x:=.tup (T.map tupI)) rfl).trans ?_;show a_ (D.int (T.map tupI).length)=_;rw[LR]
 have X:AH (dG lB (mV 5) (mV 6)) (dG rR (b9 cz (mV 7)) (b9 cz (aX bA (mV 4) (mK (.int 1))))) (fC k [ar (.int j),x3,ar (ak n T),ar (.int a),ar (.int b),ar (.lst S1.length)]) (S1++[F.map tupI])=ar (.ok (decide (a<b) && decide ((F.length:Int)=T.length)),S1++[F.map tupI]):=by
  have c:dG lB (mV 5) (mV 6) (fC k [ar (.int j),x3,ar (ak n T),ar (.int a),ar (.int b),ar (.lst S1.length)]) (S1++[F.map tupI])=ar (.ok (decide (a<b)),S1++[F.map tupI]):=rfl;have J:=yg (f:=rR) Q (Mz R _) Lg;show(dG lB (mV 5) (mV 6) _>>=_) _=_;rw[aO c];cases decide (a<b)with
  |true=>exact J
  |false=>rfl
 have fin:∀(G:List (List Int)) (S2:aF),S2[S1.length]? =ar (G.map tupI)->Kp k S S2->G.Nodup->(∀t∈G,∃a b:Int,t=[a,b]/\0<=a/\a<b/\b<n)->G.length<=21->∃(E:List (List Int)) (Y:aF),bp (dZ (ae (aX bA (mV 4) (mK (.int 0))) (ae (b9 cY (aP (b9 bZ (mV 7)))) ao))) (fC k [ar (.int j),x3,ar (ak n T),ar (.int a),ar (.int b),ar (.lst S1.length)]) S2=ar (.ok (.ret (ak n E)),Y)/\WebOk n E/\Kp k S Y:=fun G S2 g A nd u q=>by
  have v:WebOk n (eN G):=WebOk.sort nd u q;have J:aP (b9 bZ (mV 7)) (fC k [ar (.int j),x3,ar (ak n T),ar (.int a),ar (.int b),ar (.lst S1.length)]) S2=ar (.ok (.fz ((eN G).map tupI)),S2):=by
   unfold aP;rw[eh (f:=bZ) (m:=mV 7) (ρ:=fC k [ar (.int j),x3,ar (ak n T),ar (.int a),ar (.int b),ar (.lst S1.length)]) (x:=.lst S1.length) rfl];exact tF A.st g (fun r hr=>by obtain⟨a,b,e,_⟩:=u r hr;rw[e];rfl) (by omega)
  refine⟨eN G,S2,fW (gQ (x:=.int n) (S1:=S2) rfl ((jf J).trans ?_)),v,A⟩;rw[qX (by rw[LR];have:=v.few;unfold lim;omega)];rfl
 have P:Kp k S (S1++[F.map tupI]):=k1.trans (Kp.grow k1.st _);by_cases hq:(decide (a<b) && decide ((F.length:Int)=T.length))=bc
 ·have C:a<b:=MQ (N9.mp hq).1;have H:F.length=T.length:=by have:=MQ (N9.mp hq).2;omega
  have N:[a,b]∉T:=fun h=>by
   have:=wy (p:=fun t=> !decide (t=[a,b])) (l:=T) (by rw[hF];exact H) _ h
   simp at this
  have U:(F++[[a,b]]).Nodup:=by
   refine Pu.mpr ⟨O.sublist Z,MM.mpr ⟨by simp,List.nodup_nil⟩,fun x hx y s e=>?_⟩
   have I:y=[a,b]:=by simpa using s
   subst e I;exact N (Z.subset hx)
  have W:∀t∈F++[[a,b]],∃a b:Int,t=[a,b]/\0<=a/\a<b/\b<n:=fun t X=>by
   rcases M6.mp X with h|h
   ·exact w.el t (Z.subset h)
   ·exact⟨a,b,by simpa using h,a0,C,i⟩
  obtain⟨E,Y,e3,L,k3⟩:=fin (F++[[a,b]]) ((S1++[F.map tupI]).set S1.length ((F++[[a,b]]).map tupI)) (Mo (by rw[LW];exact NM _)) (P.set (by omega) hs.lt)
   U W (JQ K U W)
  refine⟨E,Y,(aL s1).trans ((aL s2).trans ((aL (ρ':=fC k [ar (.int j),x3,ar (ak n T),ar (.int a),ar (.int b),ar (.lst S1.length)]) (S1:=(S1++[F.map tupI]).set S1.length ((F++[[a,b]]).map tupI)) ?_).trans e3)),L,k3⟩;rw[rf X,if_pos hq];refine nq (x:=.non) ((lO (x:=.lst S1.length) (y:=tupI [a,b]) (S1:=S1++[F.map tupI]) rfl rfl (gQ rfl rfl)).trans ((oa cB (by rw[LR];omega)).trans ?_))
  rw[MY];rfl
 ·obtain⟨E,Y,e3,L,k3⟩:=fin F (S1++[F.map tupI]) cB P (O.sublist Z) (fun t X=>w.el t (Z.subset X)) (by omega)
  refine⟨E,Y,(aL s1).trans ((aL s2).trans ((aL (ρ':=fC k [ar (.int j),x3,ar (ak n T),ar (.int a),ar (.int b),ar (.lst S1.length)]) (S1:=S1++[F.map tupI]) ?_).trans e3)),L,k3⟩;rw[rf X,if_neg hq];rfl
theorem Ib(hs:ez S k):∃(n:Nat) (E:List (List Int)) (S1:aF),jt (gM [.lst k,.int 7]) S=ar (.ok (ak n E),S1)/\n<=7/\WebOk n E/\Kp k S S1/\S1.length=S.length:=by
 suffices h:∃(n:Nat) (E:List (List Int)) (S1:aF),jT (fC k [none,none,none,none,none,none]) S=ar (.ok (.ret (ak n E)),S1)/\n<=7/\WebOk n E/\Kp k S S1 by
  obtain⟨n,E,S1,e,N,w,W⟩:=h;obtain⟨S2,e2,k2⟩:=lN (c:=gM [.lst k,.int 7]) (d:=ak n E) hs (ff (o:=.ret (ak n E)) e rfl) W n8;exact⟨n,E,S2,e2,N,w,k2⟩
 obtain⟨j,S1,O,b,a,k1,l1⟩:=jg (e1:=mV 0) (e2:=mK (.int 6)) (ρ:=fC k [none,none,none,none,none,none]) (m:=6) hs rfl rfl (by decide) (by decide)
 have X:dG lB (mV 2) (mK (.int 3)) (fC k [ar (.int j),none,none,none,none,none])=a_ (decide (j<3)):=cm (x:=.int j) (y:=.int 3) rfl rfl rfl;unfold jT;by_cases hj:j<3
 ·obtain⟨n,E,S2,e2,N,w,k2⟩:=Fp (j:=j) (x3:=none) (x4:=none) (x5:=none) (x6:=none) (x7:=none) k1.st;exact⟨n,E,S2,(aL (bB O)).trans (kO ((Mz ((bg X).trans (if_pos (L8 hj))) S1).trans e2)),N,w,k1.trans k2⟩
 ·obtain⟨H,E0,S2,e2,r,w0,Y,k2,l2⟩:=HZ k1.st;obtain⟨T,B,e3,wT,k3⟩:=Dx (n:=H) k2.st Y fun t X=>by obtain⟨x,y,e,_⟩:=w0.el t X;exact⟨x,y,e⟩
  obtain⟨Q,K,P,l4⟩:=lN (c:=av f7 (ae (aP (av cf (ae (mV 0) (ae (mV 1) ao)))) ao) (fC k [ar (.int j),none,none,none,none,none])) (d:=ak E0.length T) k1.st (by
   have hf:aP (av cf (ae (mV 0) (ae (mV 1) ao))) (fC k [ar (.int j),none,none,none,none,none]) S1=ar (.ok (ak H E0),S2):=by
    unfold aP;rw[call2 (x:=.lst k) (y:=.int 7) rfl rfl];exact e2
   exact(aO (bP hf rfl)).trans e3) (k2.trans k3) n8
  obtain⟨zs,z,u,q,k5,i⟩:=rl (n:=E0.length) P.st (by omega)
  obtain⟨R,g,s,I,f,C⟩:=tH k5.st q wT;obtain⟨Z,J,G,l7⟩:=lN (c:=av cM (ae (mV 4) (ae (aP (av bM (ae (mV 0) (ae (aX bA (mV 4) (mK (.int 0))) ao)))) ao)) (fC k [ar (.int j),none,ar (ak E0.length T),none,none,none])) (d:=ak E0.length R) P.st (by
   have hf:aP (av bM (ae (mV 0) (ae (aX bA (mV 4) (mK (.int 0))) ao))) (fC k [ar (.int j),none,ar (ak E0.length T),none,none,none]) Q=ar (.ok (tupI zs),z):=by
    unfold aP;rw[call2 (x:=.lst k) (y:=.int E0.length) rfl rfl];exact u
   exact(aO (bP (x:=ak E0.length T) rfl (bP hf rfl))).trans s) (k5.trans C) n8
  have W:=(k1.trans P).trans G;have L:oH (dG rR (mV 2) (mK (.int 3))) (dG lB (aX bA (mV 4) (mK (.int 0))) (mK (.int 2))) (fC k [ar (.int j),none,ar (ak E0.length R),none,none,none])=a_ (decide (j=3)||decide ((E0.length:Int)<2)):=or_eq (cm (x:=.int j) (y:=.int 3) rfl rfl Lg) (cm (x:=.int E0.length) (y:=.int 2) rfl rfl rfl);have s2:∀A:cJ,il (dG lB (mV 2) (mK (.int 3))) A cK (fC k [ar (.int j),none,none,none,none,none]) S1=ar (.ok (.nx (fC k [ar (.int j),none,none,none,none,none])),S1):=fun A=>Mz ((bg X).trans (if_neg (by rw[Mu];exact hj))) S1
  by_cases hq:(decide (j=3)||decide ((E0.length:Int)<2))=bc
  ·refine⟨E0.length,R,Z,(aL (bB O)).trans ((aL (s2 _)).trans ((aL (bB K)).trans ((aL (bB J)).trans (kO (Mz ((bg L).trans (if_pos hq)) Z))))),by omega,I,W⟩
  ·have F:2<=E0.length:=by
    rw[vr,Mu,Mu]at hq;omega
   obtain⟨E,U,l,v,p⟩:=Fq (j:=j) (x3:=none) (x5:=none) (x6:=none) (x7:=none) G.st F Y I;exact⟨E0.length,E,U,(aL (bB O)).trans ((aL (s2 _)).trans ((aL (bB K)).trans ((aL (bB J)).trans ((aL (Mz ((bg L).trans (if_neg hq)) Z)).trans l)))),by omega,v,W.trans p⟩
def m_find:cJ:=aH (il (dq (bV (CQ (mV 1)))) (bp (mK .non)) (cK)) (bp (aP (cq (oJ (mK (.int 13))) (gN 0) eO eP [none,ar 3])))
def jm:cJ:=aH (bH 3 (aP (bx (ae (fG (mV 1) "NoWeb") (ae (fG (mV 1) "NoPlace") (ae (fG (mV 1) "NoPlaces") (ao))))))) (aH (bH 3 (aP (aX bK (mV 3) (aP (bx (ae (fG (mV 1) "NoSharing") (ae (fG (mV 1) "NoRoot") (ae (fG (mV 1) "NoNumber") (ao))))))))) (aH (bH 3 (aP (aX bK (mV 3) (aP (bx (ae (fG (mV 1) "NotJoined") (ae (fG (mV 1) "NoTie") (ae (fG (mV 1) "NoText") (ao))))))))) (aH (bH 3 (aP (aX bK (mV 3) (aP (bx (ae (fG (mV 1) "NoLine") (ae (fG (mV 1) "NoDeed") (ae (fG (mV 1) "TooGreat") (ao))))))))) (aH (bH 3 (aP (aX bK (mV 3) (aP (bx (ae (fG (mV 1) "NoMap") (ao))))))) m_find))))
theorem Dz(f:D)(c:M D):gz f c=aH (bH 1 (mK .non)) (aH (vZ 0 2 1 f c) jm):=rfl
theorem A4(f g x:D):(jm [ar f,ar x,none,none]>>=outD)=(jm [ar g,ar x,none,none]>>=outD):=by
 unfold jm m_find;simp only[aH,bH,nF,il,bp,cK,mV,mK,bx,aX,xQ,fG,CQ,LH,dq,bV,dG,ae,ao,av,b9,cq,aP,oJ,Ak,eB,ay,zw,FY,FZ,F4,F5,List.set_cons_succ,List.set_cons_zero,outD,j9,H_,QI,Option.bind,List.getElem?_cons_succ,List.getElem?_cons_zero,Option.join]
theorem DA(f:D)(c:M D):bf f c []=rj c (fun x=>jm [ar f,ar x,none,none]>>=outD):=by
 funext S;unfold bf oA;rw[if_pos (show[f].length=1 from rfl)];show((gz f c [ar f,none,none,none])>>=outD) S=_;rw[Dz,aZ (ρ':=[ar f,ar .non,none,none]) rfl];have Z:vZ 0 2 1 f c [ar f,ar .non,none,none]=CF 2 1 c [ar f,ar .non,none,none]:=by
  unfold vZ;exact if_pos rfl
 show((vZ 0 2 1 f c [ar f,ar .non,none,none]>>=fun o=>Ak o jm)>>=outD) S=_;rw[Z,eB];show M.bnd (CF 2 1 c [ar f,ar .non,none,none]) _ S=_;unfold M.bnd CF rj;cases h:c S with
 |none=>rfl
 | some p=>
  obtain⟨r,S1⟩:=p;cases r with
  |ok a=>rfl
  | ex x=>
   cases x with
   |exc n ds=>
    dsimp only;by_cases hn:n∈a9
    ·rw[if_pos hn,if_pos hn];rfl
    ·rw[if_neg hn,if_neg hn]
   |_=>rfl
theorem bI:∀f c es,bf f c es=aW c es:=by
 intro f c es;unfold aW;cases es with
 |nil=>
  rw[DA,DA];congr 1;funext x;exact A4 _ _ x
 |cons e es=>
  unfold bf oA;rw[if_neg (by simp),if_neg (by simp)]
section
variable {f:D}{n:Str}{ds:List D}{z:Option D}{bs:List Bool}
theorem pP(Z:n∈a9)(a:Str):fG (mV 1) a [ar f,ar (.exc n ds),none,z]=a_ (.bl (br n a)):=Dq (ds:=ds) (g:=fun n=>br n a) Z
theorem three(Z:n∈a9)(a b c:Str):aP (bx (ae (fG (mV 1) a) (ae (fG (mV 1) b) (ae (fG (mV 1) c) ao)))) [ar f,ar (.exc n ds),none,z]=a_ (.fz ([br n a,br n b,br n c].map D.bl)):=by
 have h:=a7 (pP (f:=f) (ds:=ds) (z:=z) Z a) (a7 (pP (f:=f) (ds:=ds) (z:=z) Z b) (a7 (pP (f:=f) (ds:=ds) (z:=z) Z c) (es:=ao) rfl));show jt (ae _ _ _>>=bJ)=_;rw[h,ay];exact cL (us:=[.bl (br n a),.bl (br n b),.bl (br n c)]) rfl Lc
theorem uW{e:TM}{Z:List Bool}(h:e [ar f,ar (.exc n ds),none,ar (.fz (bs.map D.bl))]=a_ (.fz (Z.map D.bl)))(Y:bs.length+Z.length<=100):bH 3 (aP (aX bK (mV 3) e)) [ar f,ar (.exc n ds),none,ar (.fz (bs.map D.bl))]=a_ (.nx [ar f,ar (.exc n ds),none,ar (.fz ((bs++Z).map D.bl))]):=by
 refine n4 (x:=.fz ((bs++Z).map D.bl)) ?_;show jt (aX bK (mV 3) e _)=_;rw[cQ (x:=.fz (bs.map D.bl)) rfl h];show jt (bJ (bs.map D.bl++Z.map D.bl))=_;rw[<-MY];exact cL (jW _) (by rw[LR,LW];unfold lim;omega)
theorem find_eq(S:n∈a9)(R:bs.length=13):m_find [ar f,ar (.exc n ds),none,ar (.fz (bs.map D.bl))]=a_ (.ret (.fz ((bG 0 13).filter (IA bs)))):=by
 have Z:il (dq (bV (CQ (mV 1)))) (bp (mK .non)) cK [ar f,ar (.exc n ds),none,ar (.fz (bs.map D.bl))]=a_ (.nx [ar f,ar (.exc n ds),none,ar (.fz (bs.map D.bl))]):=by
  have:dq (bV (CQ (mV 1))) [ar f,ar (.exc n ds),none,ar (.fz (bs.map D.bl))]=a_ false:=by
   show((vW (fun _=>bc) (.exc n ds)>>=lE)>>=_)=_;rw[Dq S];rfl
  exact(bg this).trans (if_neg (by decide))
 have hi:oJ (mK (.int 13)) [ar f,ar (.exc n ds),none,ar (.fz (bs.map D.bl))]=a_ ⟨bG 0 13,.none⟩:=(nZ (x:=.int 13) rfl).trans (yc (by omega))
 have Y:cG 0 (((bG 0 13).filter (IA bs)).map id)=true:=by
  rw[Rb];have:∀l:List Nat,cG 0 ((l.map fun i:Nat=>D.int (0+(i:Int))).filter (IA bs))=true:=fun l=>by
   induction l with
   |nil=>rfl
   |cons x l ih=>
    rw[Mh,List.filter_cons];split
    ·unfold cG;rw[ih];unfold fU;rfl
    ·exact ih
  exact this _
 have X:=iT (g:=gN 0) (t:=eO) (m:=eP) (js:=[none,ar 3]) (fun ρ=>∃x,ρ=[x,ar (.fz (bs.map D.bl))]) (IA bs) id hi (by unfold bG lim;rw[LR,Ms];omega) ⟨none,rfl⟩
  (fun d hd ρ ⟨x,hρ⟩=>by
   subst hρ;obtain⟨k,W,rfl⟩:=Mp.mp hd;have W:k<13:=L9.mp W;refine⟨_,rfl,⟨_,rfl⟩,?_,fun _=>rfl⟩;have e:kd (bs.map D.bl) (0+(k:Int))=ar (.bl (bs.getD k c_)):=by
    rw[ND];unfold kd wZ;rw[LR];have Z:¬ ((k:Int)<0):=by omega
    have U:(k:Int)<bs.length:=by omega
    have T:k<bs.length:=by omega
    simp[Z,U,T]
   refine g9 ((cQ (x:=.fz (bs.map D.bl)) (y:=.int (0+(k:Int))) rfl rfl).trans ?_);show(match kd (bs.map D.bl) (0+(k:Int))with|some d=>(a_ d:M D)|none=>M.fail)=_
   rw[e];show a_ (D.bl (bs.getD k c_))=a_ (D.bl (bs.getD (0+(k:Int)).toNat c_));rw[ND,MB]) Y
 rw[Rb]at X;unfold m_find;exact(aZ Z).trans (fe X)
def marks(n:Str):List Bool:=[br n "NoWeb",br n "NoPlace",br n "NoPlaces",br n "NoSharing",br n "NoRoot",br n "NoNumber",br n "NotJoined",br n "NoTie",br n "NoText",br n "NoLine",br n "NoDeed",br n "TooGreat",br n "NoMap"]
theorem rest_eq(Z:n∈a9):jm [ar f,ar (.exc n ds),none,none]=a_ (.ret (.fz ((bG 0 13).filter (IA (marks n))))):=by
 have X:=n4 (i:=3) (three (f:=f) (ds:=ds) (z:=none) Z "NoWeb" "NoPlace" "NoPlaces");have Y:aP (bx (ae (fG (mV 1) "NoMap") ao)) [ar f,ar (.exc n ds),none,ar (.fz (([br n "NoWeb",br n "NoPlace",br n "NoPlaces"]++[br n "NoSharing",br n "NoRoot",br n "NoNumber"]++[br n "NotJoined",br n "NoTie",br n "NoText"]++[br n "NoLine",br n "NoDeed",br n "TooGreat"]).map D.bl))]=a_ (.fz ([br n "NoMap"].map D.bl)):=by
  show jt (ae _ _ _>>=bJ)=_;rw[a7 (pP Z "NoMap") (es:=ao) rfl,ay];exact cL (us:=[.bl (br n "NoMap")]) rfl (by show 1<=lim;unfold lim;omega)
 unfold jm;exact(aZ X).trans ((aZ (uW (bs:=[br n "NoWeb",br n "NoPlace",br n "NoPlaces"]) (three Z "NoSharing" "NoRoot" "NoNumber") (by decide:3+3<=100))).trans ((aZ (uW (bs:=[br n "NoWeb",br n "NoPlace",br n "NoPlaces"]++[br n "NoSharing",br n "NoRoot",br n "NoNumber"]) (three Z "NotJoined" "NoTie" "NoText") (by decide:6+3<=100))).trans ((aZ (uW (bs:=[br n "NoWeb",br n "NoPlace",br n "NoPlaces"]++[br n "NoSharing",br n "NoRoot",br n "NoNumber"]++[br n "NotJoined",br n "NoTie",br n "NoText"]) (three Z "NoLine" "NoDeed" "TooGreat") (by decide:9+3<=100))).trans ((aZ (uW (bs:=[br n "NoWeb",br n "NoPlace",br n "NoPlaces"]++[br n "NoSharing",br n "NoRoot",br n "NoNumber"]++[br n "NotJoined",br n "NoTie",br n "NoText"]++[br n "NoLine",br n "NoDeed",br n "TooGreat"]) Y (by decide:12+1<=100))).trans (find_eq (bs:=marks n) Z rfl)))))
theorem oh(Y:n∈a9)(Z:(bG 0 13).filter (IA (marks n))=us):aW (M.raise (.exc n ds)) []=a_ (.fz us):=by
 unfold aW;rw[DA];have:rj (M.raise (.exc n ds)) (fun x=>jm [ar (.fn 0 0 "" [] []),ar x,none,none]>>=outD)=(jm [ar (.fn 0 0 "" [] []),ar (.exc n ds),none,none]>>=outD):=by
  funext S;show(if n∈a9 then _ else none)=_;rw[if_pos Y]
 rw[this,rest_eq Y,Z];rfl
end
theorem zH:aW (M.raise (.exc "NoWeb" [])) []=a_ (.fz [.int 0]):=oh (by decide) (by rfl)
theorem A5:aW (M.raise (great L)) []=a_ (.fz [.int 11]):=oh (n:="TooGreat") (by decide) (by rfl)
def uX(a b:Nat):List D:=[.non,.int 0,.tup [],.tup [.int 15,.tup []],.tup [.int (-1),.tup []],.tup [.bl bc,.tup []],.tup [.int 2,.lst a],.lst b,.tup [.int 2,.tup [.tup [.int 1,.int 0]]],.tup [.int 2,.tup [.tup [.int 0,.int 0]]]]
def uY:List D:=[.tup [.int 3,.tup [.tup [.int 0,.int 2],.tup [.int 0,.int 1]]],.tup [.int 2,.tup [.tup [.int 0,.int 1],.tup [.int 0,.int 1]]],.tup [.int 2,.tup [.tup [.int 0,.int 1,.int 1]]],.tup [.int 2,.tup [.tup [.int 0,.bl bc]]],.tup [.int 2]]
def yj:List D:=[.tup [.int 2,.tup [.tup [.int 0,.int 2]]],.str "2:",.emp]
def DB(c:Nat):List D:=[.tup [.int 2,.tup [.lst c]],.tup [.int 2,.tup [],.tup []],.tup [.int 2,.non],.tup [.str "2",.tup []]]
abbrev A6(a b c:Nat):List D:=uX a b++uY++yj++DB c
theorem Ie(X:n<=a)(P:n<=b)(Y:n<=c)(L:S[a]? =ar [])(J:S[b]? =ar [.int 2,.tup []])(Q:S[c]? =ar [.int 0,.int 1]):∀d∈A6 a b c,∃u,jr n (xX S n 60) d=ar u/\Good u/\i3 u=false:=by
 have O:=rk (f:=59) X L rfl;have I:=rk (f:=59) P J rfl;have U:=rk (f:=59) Y Q rfl;have R:∀d,fU 0 d=bc->Dm d=bc->i3 d=c_->∃u,jr n (xX S n 60) d=ar u/\Good u/\i3 u=false:=fun d W Z H=>⟨d,uI d (zv (Mg _) d W),nu Z,H⟩;have N:∃u,jr n (xX S n 60) (.tup [.int 2,.lst a])=ar u/\Good u/\i3 u=false:=⟨.tup [.int 2,.fz []],by unfold jr gZ gZ gZ;rw[O];rfl,nu rfl,rfl⟩
 have K:∃u,jr n (xX S n 60) (.lst b)=ar u/\Good u/\i3 u=false:=⟨_,I,nu rfl,rfl⟩;have T:∃u,jr n (xX S n 60) (.tup [.int 2,.tup [.lst c]])=ar u/\Good u/\i3 u=false:=⟨.tup [.int 2,.tup [.fz [.int 0,.int 1]]],by
  have:jr n (xX S n 60) (.tup [.lst c])=ar (.tup [.fz [.int 0,.int 1]]):=by unfold jr gZ gZ;rw[U];rfl
  unfold jr gZ gZ gZ;rw[this];rfl,nu rfl,rfl⟩
 intro d hd;simp only[A6,uX,uY,yj,DB,N_,f_,fb,or_false]at hd;rcases hd with(((rfl|rfl|rfl|rfl|rfl|rfl|rfl|rfl|rfl|rfl)|(rfl|rfl|rfl|rfl|rfl))|(rfl|rfl|rfl))|(rfl|rfl|rfl|rfl)<;>first|exact N|exact K|exact T|exact R _ rfl rfl rfl
def bT(S:aF):aF:=[[],[.int 2,.tup []],uX S.length (S.length+1),uY,uX S.length (S.length+1)++uY,yj,uX S.length (S.length+1)++uY++yj,[.int 0,.int 1],DB (S.length+7),A6 S.length (S.length+1) (S.length+7)]
theorem Fs(Z:aw [.lst k,.int 22] (S++bT S)=ar (.ok (.int j),S'))(Y:S'[S.length+9]? =ar (A6 S.length (S.length+1) (S.length+7)))(X:kd (A6 S.length (S.length+1) (S.length+7)) j=ar d):
  gr [ar (.lst k),none] S=ar (.ok (.ret d),S'):=by
 unfold gr;refine(aL (ρ':=[ar (.lst k),ar (.lst (S.length+2))]) (S1:=S++(bT S).take 3) (bB (x:=.lst (S.length+2)) ?_)).trans ((aL (ρ':=[ar (.lst k),ar (.lst (S.length+4))]) (S1:=S++(bT S).take 5) (bB (x:=.lst (S.length+4)) ?_)).trans ((aL (ρ':=[ar (.lst k),ar (.lst (S.length+6))]) (S1:=S++(bT S).take 7) (bB (x:=.lst (S.length+6)) ?_)).trans ((aL (ρ':=[ar (.lst k),ar (.lst (S.length+9))]) (S1:=S++bT S) (bB (x:=.lst (S.length+9)) ?_)).trans (fW ?_))))
 ·refine(jX (ys:=uX S.length (S++[[]]).length) (S1:=S++[[]]++[[.int 2,.tup []]]) rfl (by show 10<=lim;unfold lim;omega)).trans ?_
  rw[show(S++([[]]:aF)).length=S.length+1 from LW,Mr,LW,Mr];rfl
 ·refine(hU (x:=.lst (S.length+2)) rfl (jX (ys:=uY) (S1:=S++(bT S).take 3) rfl (by show 5<=lim;unfold lim;omega))).trans ?_
  rw[Mr,LW];refine(uK (xs:=uX S.length (S.length+1)) (ys:=uY) (pk 2) (pk 3) (by show 15<=lim;unfold lim;omega)).trans ?_
  rw[Mr,LW];rfl
 ·refine(hU (x:=.lst (S.length+4)) rfl (jX (ys:=yj) (S1:=S++(bT S).take 5) rfl (by show 3<=lim;unfold lim;omega))).trans ?_
  rw[Mr,LW];refine(uK (xs:=uX S.length (S.length+1)++uY) (ys:=yj) (pk 4) (pk 5) (by show 18<=lim;unfold lim;omega)).trans ?_
  rw[Mr,LW];rfl
 ·refine(hU (x:=.lst (S.length+6)) rfl (jX (ys:=DB (S++(bT S).take 7).length) (S1:=S++(bT S).take 7++[[.int 0,.int 1]]) rfl (by show 4<=lim;unfold lim;omega))).trans ?_
  rw[show(S++(bT S).take 7).length=S.length+7 from LW,Mr,Mr,LW];refine(uK (xs:=uX S.length (S.length+1)++uY++yj) (ys:=DB (S.length+7)) (pk 6) (pk 8) (by show 22<=lim;unfold lim;omega)).trans ?_
  rw[LW];exact N4 (fun x=>ar (Res.ok (D.lst (S.length+9)),x)) (Mr _ _ _)
 ·refine(hU (x:=.lst (S.length+9)) (y:=.int j) (S2:=S') rfl ?_).trans (Dg Y X);exact Z
theorem Ig(hs:ez S k):∃d S1,jt (eZ [.lst k]) S=ar (.ok d,S1)/\Good d/\i3 d=c_/\Kp k S S1/\S1.length=S.length:=by
 obtain⟨_,Y,W,j,rfl,T,R,Z⟩:=zA (Q:=fun d Y=>∃j,d= .int j/\0<=j/\j<22/\Kp k (S++bT S) Y) hs.grow (many:=22) (by decide) (by decide) fun j Y a b _ X=>⟨j,rfl,a,b,X⟩
 have N:=hs.lt;have gt:∀i us,(S++bT S)[S.length+i]? =ar us->Y[S.length+i]? =ar us:=fun i us h=>(Z.oth (S.length+i) (LX.mp h).1 (by omega)).trans h
 obtain⟨d,O,hd⟩:=Dn (xs:=A6 S.length (S.length+1) (S.length+7)) T R;have X:Kp k S Y:=(Kp.grow hs _).trans Z;obtain⟨u,P,U,hw⟩:=Ie (n:=S.length) (a:=S.length) (b:=S.length+1) (c:=S.length+7) (S:=Y) (LU _) (NN _ _) (NN _ _) (gt 0 _ (pk 0)) (gt 1 _ (pk 1)) (gt 7 _ (pk 7)) d hd;refine⟨u,_,nW (ff (Fs W (gt 9 _ (pk 9)) O) rfl) (pN X) (.inl ?_) X.len P,U,hw,zF hs X⟩;have:=Z.len;rw[LW,show(bT S).length=10 from rfl]at this;omega
theorem Ft{xs:List D}(Q:xs.length<=1000)(h:∀x∈xs,bS k [x,x]=a_ (.bl bc)):bS (k+1) [.fz xs,.fz xs]=a_ (.bl bc):=by
 have em:((((xs.zip xs).map fun p:D×D=>D.tup [p.1,p.2]).filter fun _=>bc).map fun _=>D.bl bc)=(xs.map fun _=>bc).map D.bl:=by
  rw[e9,My,My];refine PX (by simp) fun i P R=>by simp
 have Y:=iT (mi:=sU (mV 0) (mV 1)) (g:=fE 2 (bb (gN 0) (bb (gN 1) dY))) (t:=gv (bS k)) (m:=gw (bS k)) (js:=[none,none]) (ρ:=[ar (.fz xs),ar (.fz xs)])
  (its:=(xs.zip xs).map fun p:D×D=>D.tup [p.1,p.2]) (fun ρ=>∃x y,ρ=[x,y]) (fun _=>bc) (fun _=>.bl bc) rfl (by rw[LR,P6];unfold lim;omega) ⟨none,none,rfl⟩
  (fun d hd ρ ⟨x,y,hρ⟩=>by
   subst hρ;obtain⟨z,S,rfl⟩:=qY hd;exact⟨_,rfl,⟨_,_,rfl⟩,rfl,fun _=>j7 ((call2 rfl rfl).trans (h z S))⟩) (by rw[em];exact jW _)
 rw[em]at Y;have Z:(xs.map fun _=>bc).all id=true:=by rw[Nv];exact Mf.mpr fun _ _=>rfl
 have hlen:∀j,j<2->b9 cz (mV j) [ar (.fz xs),ar (.fz xs)]=a_ (.int xs.length):=fun j U=>by
  match j,U with
  |0,_=>rfl
  |1,_=>rfl
 refine dW (o:=.ret (.bl bc)) ?_ rfl;show dh _ [ar (.fz xs),ar (.fz xs)]=_;unfold dh;refine cW ?_;refine(bg (b:=bc) (g9 rfl)).trans ?_;rw[if_pos rfl];have X:∀T,dG ib (fu (mV 0) T) (fu (mV 1) T) [ar (.fz xs),ar (.fz xs)]=a_ false:=fun T=>cm (x:=.bl (iI "list" T)) (y:=.bl (iI "list" T)) rfl rfl Ld;have W:oH (dG ib (fu (mV 0) "tuple") (fu (mV 1) "tuple")) (dG ib (fu (mV 0) "list") (fu (mV 1) "list")) [ar (.fz xs),ar (.fz xs)]=a_ false:=or_eq (X "tuple") (X "list");rw[aZ ((bg W).trans (if_neg (by decide))),aZ ((bg (cm (hlen 0 (by decide)) (hlen 1 (by decide)) Lr)).trans (if_neg (by decide)))]
 refine fe ((eh Y).trans (kN.trans ?_));rw[Z]
def nv(fv:D)(cc:M D):cJ:=aH (il (oH (dG (Js id) (mV 3) (mK .non)) (dG ib (aP (m9 0 fv (ao) cc aW)) (aP (bx (ae (mK (.int 11)) (ao)))))) (bp (mK (.bl c_))) (cK)) (bp (aP (av di (ae (aP (bx (ae (kG c_ (mV 3)) (ae (kG bc (mV 3)) (ao))))) (ae (aP (bx (ae (mV 1) (ae (mV 2) (ao))))) (ao))))))
theorem Fu(f:D)(c:M D):fB f c=aH (bH 3 (mK .non)) (aH (oR "TooGreat" 0 4 3 f c) (nv f c)):=rfl
theorem zI{R:M D->List D->M D}:m9 0 f ao c R (ar f::r)=R c []:=by
 unfold m9;rw[if_pos (show(ar f::r:aQ)[0]? =ar (ar f)from rfl)];rfl
theorem DC(f g:D)(c:M D)(a b x:D):(nv f c [ar f,ar a,ar b,ar x,none]>>=outD)=(nv g c [ar g,ar a,ar b,ar x,none]>>=outD):=by
 unfold nv;simp only[aH,il,bp,cK,mV,mK,bx,aX,av,b9,aP,kG,oH,dG,ae,ao,Ak,eB,ay,zw,FY,FZ,F4,F5,outD,zI]
def yk(c:M D)(k:D->M D):M D:=fun S=>match c S with
 |some (.ok _,S')=>k .non S'
 |some (.ex (.exc n ds),S')=>if n∈a9/\br n "TooGreat"=bc then k (.exc n ds) S' else none
 |_=>none
theorem DD(f:D)(c:M D)(a b:D):bz f c [a,b]=yk c (fun x=>nv f c [ar f,ar a,ar b,ar x,none]>>=outD):=by
 funext S;unfold bz oA;rw[if_pos (show[f,a,b].length=3 from rfl)];show((fB f c [ar f,ar a,ar b,none,none])>>=outD) S=_;rw[Fu,aZ (ρ':=[ar f,ar a,ar b,ar .non,none]) rfl];have Z:oR "TooGreat" 0 4 3 f c [ar f,ar a,ar b,ar .non,none]=Da "TooGreat" 4 3 c [ar f,ar a,ar b,ar .non,none]:=by
  unfold oR;exact if_pos rfl
 show((oR "TooGreat" 0 4 3 f c [ar f,ar a,ar b,ar .non,none]>>=fun o=>Ak o (nv f c))>>=outD) S=_;rw[Z,eB];show M.bnd (Da "TooGreat" 4 3 c [ar f,ar a,ar b,ar .non,none]) _ S=_;unfold M.bnd Da yk;cases h:c S with
 |none=>rfl
 | some p=>
  obtain⟨r,S1⟩:=p;cases r with
  |ok a=>rfl
  | ex x=>
   cases x with
   |exc n ds=>
    dsimp only;by_cases hn:n∈a9/\br n "TooGreat"=bc
    ·rw[if_pos hn,if_pos hn];rfl
    ·rw[if_neg hn,if_neg hn]
   |_=>rfl
theorem eQ:∀f c es,bz f c es=bN c es:=by
 intro f c es;unfold bN
 match es with
 |[a,b]=>
  rw[DD,DD];congr 1;funext x;exact DC _ _ c a b x
 |[]|[_]|_::_::_::_=>
  unfold bz oA;rw[if_neg (by simp),if_neg (by simp)]
theorem zJ:bN (M.raise (great L)) [.int L,.int 7]=a_ (.bl bc):=by
 unfold bN;rw[DD];have h0:yk (M.raise (great L)) (fun x=>nv (.fn 0 0 "" [] []) (M.raise (great L)) [ar (.fn 0 0 "" [] []),ar (.int L),ar (.int 7),ar x,none]>>=outD)=(nv (.fn 0 0 "" [] []) (M.raise (great L)) [ar (.fn 0 0 "" [] []),ar (.int L),ar (.int 7),ar (great L),none]>>=outD):=by
  funext S;show(if (("TooGreat":Str)∈a9/\br "TooGreat" "TooGreat"=bc)then _ else none)=_;rw[if_pos ⟨by decide,by decide⟩];rfl
 rw[h0];have T:aP (m9 0 (.fn 0 0 "" [] []) ao (M.raise (great L)) aW) [ar (.fn 0 0 "" [] []),ar (.int L),ar (.int 7),ar (great L),none]=a_ (.fz [.int 11]):=j7 (zI.trans A5);have W:oH (dG (Js id) (mV 3) (mK .non)) (dG ib (aP (m9 0 (.fn 0 0 "" [] []) ao (M.raise (great L)) aW)) (aP (bx (ae (mK (.int 11)) ao)))) [ar (.fn 0 0 "" [] []),ar (.int L),ar (.int 7),ar (great L),none]=a_ false:=or_eq (b:=c_) (cm (x:=great L) (y:=.non) rfl rfl rfl) (cm T uU Fg);have Y:∀b,kG b (mV 3) [ar (.fn 0 0 "" [] []),ar (.int L),ar (.int 7),ar (great L),none]=a_ (if b then .int 7 else .int L):=fun b=>by
  show zo b (great L)=_;unfold great zo;exact if_pos (by decide)
 have U:aP (bx (ae (kG c_ (mV 3)) (ae (kG bc (mV 3)) ao))) [ar (.fn 0 0 "" [] []),ar (.int L),ar (.int 7),ar (great L),none]=a_ (.fz [.int L,.int 7]):=by
  show jt (ae _ _ _>>=bJ)=_;rw[a7 (Y c_) (a7 (Y bc) (es:=ao) rfl),ay];exact cL (us:=[.int L,.int 7]) rfl qW
 have X:aP (bx (ae (mV 1) (ae (mV 2) ao))) [ar (.fn 0 0 "" [] []),ar (.int L),ar (.int 7),ar (great L),none]=a_ (.fz [.int L,.int 7]):=cL (us:=[.int L,.int 7]) rfl qW;have hs:di [.fz [.int L,.int 7],.fz [.int L,.int 7]]=a_ (.bl bc):=Ft (k:=5) (by decide:2<=1000) fun x Z=>by
  simp only[f_,fb,or_false]at Z;rcases Z with rfl|rfl<;>exact same_int
 unfold nv;rw[aZ ((bg W).trans (if_neg (by decide))),fe (j7 ((call2 U X).trans hs))];rfl
theorem zK(s:List Int):∀rs:List (List Int),((rs.map jZ).any fun y=>gc y (jZ s))=decide (s∈rs)
 |[]=>by simp
 | r::rs=>by
  rw[Mh,Qg,zK s rs];have:gc (jZ r) (jZ s)=decide (r=s):=by
   unfold jZ gc;exact kP r s
  rw[this,Oy];simp only[vr,decide_eq_true_eq,f_];exact or_congr ⟨Eq.symm,Eq.symm⟩ Iff.rfl
theorem zM{s:List Int}{Z:List (List Int)}:inD (tupI s) (.tup (Z.map tupI))=a_ (.bl (decide (s∈Z))):=bW fun S=>by
 unfold inD;have Y:ji S 60 (.tup (Z.map tupI))=ar (.tuple (Z.map jZ)):=by
  show(mapP (ji S 59) (Z.map tupI)).map w8=_;rw[n5];rfl
 exact(yX (lr s) Y (r:=decide (s∈Z)) (by show ar (id ((Z.map jZ).any fun y=>gc y (jZ s)))=_;rw[zK];rfl)).mpr ⟨rfl,rfl⟩
theorem Lh{a b:Bool}:rR (.bl a) (.bl b)=a_ (.bl (a==b)):=bW fun S=>F6.mpr ⟨rfl,rfl⟩
theorem Li{a b:Bool}:ib (.bl a) (.bl b)=a_ (.bl (a !=b)):=bW fun S=>by
 unfold ib;refine(gU nY nY).mpr ⟨?_,rfl⟩;cases a<;>cases b<;>rfl
def tB(E:List (List Int))(a b:Int):Bool:=decide ([if b<a then b else a,if b>a then b else a]∈E)
section
variable {n n':Nat}{E E':List (List Int)}
theorem mm{ρ:aQ}{e1 e2:TM}{a b:Int}(Z:e1 ρ=a_ (.int a))(Y:e2 ρ=a_ (.int b)):dZ (ae (av minD (ae e1 (ae e2 ao))) (ae (av maxD (ae e1 (ae e2 ao))) ao)) ρ=a_ (tupI [if b<a then b else a,if b>a then b else a]):=by
 show(ae _ _ _>>=bU)=_;rw[a7 ((call2 (F:=minD) Z Y).trans rfl) (a7 ((call2 (F:=maxD) Z Y).trans rfl) (es:=ao) rfl),ay];unfold bU;exact if_pos qW
theorem DE{a b:Int}:eW [ak n E,.int a,.int b]=a_ (.bl (tB E a b)):=
 dW (o:=.ret (.bl (tB E a b))) (fe ((cQ (y:=.tup (E.map tupI)) (mm (a:=a) (b:=b) rfl rfl) rfl).trans zM)) rfl
theorem zN{a b:Int}:dP [ak n E,.int a,.int b]=a_ (.bl (tB E a b)):=
 dW (o:=.ret (.bl (tB E a b))) (fe ((cQ (y:=.tup (E.map tupI)) (mm (a:=a) (b:=b) rfl rfl) rfl).trans zM)) rfl
def JR(E E':List (List Int))(r:List Int)(p:Int)(i:Nat):Bool:=tB E (i:Int) (r.length:Int)==tB E' (r.getD i 0) p
def DW(E E':List (List Int))(r:List Int)(p:Int):Bool:= !rm p r && (ed r.length).all (JR E E' r p)
def kT(E E':List (List Int))(r:List Int)(p:Int):D->D
 | .int i=>.bl (JR E E' r p i.toNat)
 |d=>d
theorem JS(n:Nat):bG 0 n=(ed n).map fun i:Nat=>D.int (i:Int):=by
 unfold bG;exact Oj fun i _=>by rw[ND]
theorem Ih{m:TM}{ρ:aQ}{n:Nat}(h:m ρ=a_ (.int n))(Z:n<=1000):oJ m ρ=a_ ⟨(ed n).map fun i:Nat=>D.int (i:Int),.none⟩:=by
 have:=(nZ h).trans (yc (by omega))
 rw[MB,JS]at this;exact this
theorem Ii{r:List Int}{p:Int}(T:r.length<=100):iF [ak n E,ak n' E',tupI r,.int p]=a_ (.bl (DW E E' r p)):=by
 have hlen:∀x,b9 cz (mV 2) [ar (ak n E),ar (ak n' E'),ar (tupI r),ar (.int p),x]=a_ (.int r.length):=fun x=>by
  refine(eh (x:=tupI r) rfl).trans ?_;show a_ (D.int (r.map D.int).length)=_;rw[LR]
 have Z:dG inD (mV 3) (mV 2) [ar (ak n E),ar (ak n' E'),ar (tupI r),ar (.int p),ar (.int r.length)]=a_ (rm p r):=cm (x:=.int p) (y:=tupI r) rfl rfl Dv;refine dW (o:=.ret (.bl (DW E E' r p))) ?_ rfl;unfold nX DW;refine(aZ (n4 (hlen _))).trans ?_;cases hp:rm p r with
 |true=>exact cW ((bg Z).trans ((if_pos hp).trans rfl))
 | false=>
  refine(aZ (ρ':=[ar (ak n E),ar (ak n' E'),ar (tupI r),ar (.int p),ar (.int r.length)]) ((bg Z).trans (if_neg (by rw[hp];decide)))).trans (fe ?_)
  have em:(((ed r.length).map fun i:Nat=>D.int (i:Int)).filter fun _=>bc).map (kT E E' r p)=((ed r.length).map (JR E E' r p)).map D.bl:=by
   rw[e9,My,My];rfl
  have Y:=iT (mi:=oJ (mV 4)) (g:=gN 0) (t:=jR) (m:=jS) (js:=[none,ar 0,ar 4,ar 1,ar 2,ar 3]) (ρ:=[ar (ak n E),ar (ak n' E'),ar (tupI r),ar (.int p),ar (.int r.length)]) (its:=(ed r.length).map fun i:Nat=>D.int (i:Int))
   (fun ρ=>∃x,ρ=[x,ar (ak n E),ar (.int r.length),ar (ak n' E'),ar (tupI r),ar (.int p)]) (fun _=>bc) (kT E E' r p) (Ih rfl (by omega)) (by rw[LR,Ms];unfold lim;omega) ⟨none,rfl⟩
   (fun d hd ρ ⟨x,hρ⟩=>by
    subst hρ;obtain⟨i,hi,rfl⟩:=Mp.mp hd;have hi:=L9.mp hi;refine⟨[ar (.int i),ar (ak n E),ar (.int r.length),ar (ak n' E'),ar (tupI r),ar (.int p)],rfl,⟨_,rfl⟩,rfl,fun _=>?_⟩;have U:=j7 (e:=av eW (ae (mV 1) (ae (mV 0) (ae (mV 2) ao)))) (ρ:=[ar (.int i),ar (ak n E),ar (.int r.length),ar (ak n' E'),ar (tupI r),ar (.int p)]) ((iW (x:=ak n E) (y:=.int i) (z:=.int r.length) rfl rfl rfl).trans DE);have X:aX bA (mV 4) (mV 0) [ar (.int i),ar (ak n E),ar (.int r.length),ar (ak n' E'),ar (tupI r),ar (.int p)]=a_ (.int (r.getD i 0)):=by
     refine(cQ (x:=tupI r) (y:=.int i) rfl rfl).trans ((fT (by omega) (by omega)).trans ?_)
     rw[MB]
    have W:=j7 (e:=av eW (ae (mV 3) (ae (aX bA (mV 4) (mV 0)) (ae (mV 5) ao)))) ((iW (x:=ak n' E') (z:=.int p) rfl X rfl).trans DE);exact(cQ U W).trans Lh) (by rw[em];exact jW _)
  rw[em]at Y;refine(eh Y).trans (kN.trans ?_);rw[Nv];rfl
end
theorem zO{its ds:List D}{d v:D}{g:nD}{b:cJ}{ρ Z:aQ}(h:g d ρ=a_ Z)(Y:b Z=a_ (.ret v)):eG ⟨its,.none⟩ g b (d::ds) ρ=a_ (.ret v):=by
 rw[eG,eV,ay,h,ay,Y];rfl
theorem zQ{its ds:List D}{d:D}{g:nD}{b:cJ}{ρ Y Z:aQ}(h:g d ρ=a_ Y)(X:b Y=a_ (.nx Z)):eG ⟨its,.none⟩ g b (d::ds) ρ=eG ⟨its,.none⟩ g b ds Z:=by
 rw[eG,eV,ay,h,ay,X];rfl
def ext(n:Nat)(E E':List (List Int))(r:List Int):List (List Int):=((ed n).filter fun p:Nat=>DW E E' r p).map fun p:Nat=>r++[(p:Int)]
section
variable {n:Nat}{E E':List (List Int)}{a b i:Int}
theorem zR{p:Int}{t:List Int}:rm p t=bc↔p∈t:=by
 unfold rm;rw[List.any_eq_true];exact⟨fun⟨x,hx,e⟩=>by rw[<-Qc e];exact hx,fun h=>⟨p,h,beq_self_eq_true p⟩⟩
theorem zS:tB E a b=tB E b a:=by
 have e1:(if b<a then b else a)=(if a<b then a else b):=by split<;>split<;>omega
 have e2:(if b>a then b else a)=(if a>b then a else b):=by split<;>split<;>omega
 unfold tB;rw[e1,e2]
theorem JT(h:a<b):tB E a b=decide ([a,b]∈E):=by
 unfold tB;rw[if_neg (by omega),if_pos h]
structure Part(n:Nat)(E E':List (List Int))(r:List Int):Prop where
 nd:r.Nodup
 el:∀x∈r,0<=x/\x<n
 ok:∀j,j<r.length->∀i,i<j->tB E (i:Int) (j:Int)=tB E' (r.getD i 0) (r.getD j 0)
theorem Part.nil:Part n E E' []:=⟨.nil,(fun x h=>by cases h),fun j h=>by cases h⟩
theorem oj{r s:List Int}{j:Nat}(h:j<r.length):(r++s).getD j 0=r.getD j 0:=by
 rw[LY,LY,Mv h]
theorem getD_last{r:List Int}{p:Int}:(r++[p]).getD r.length 0=p:=by
 rw[LY,Nq (LU _),QW];rfl
theorem Part.ext{r s:List Int}(h:Part n E E' r)(hs:s∈ext n E E' r):Part n E E' s:=by
 unfold W.ext at hs;obtain⟨p,Y,rfl⟩:=Mp.mp hs;obtain⟨Y,X⟩:=O2.mp Y;have Y:=L9.mp Y;unfold DW at X;rw[MH,Mf]at X;obtain⟨g1,g2⟩:=X;have g1:(p:Int)∉r:=fun z=>by rw[zR.mpr z]at g1;cases g1
 refine⟨Pu.mpr ⟨h.nd,List.pairwise_singleton _ _,fun a T b S e=>?_⟩,fun x Z=>?_,fun j U i hi=>?_⟩
 ·rw[NV.mp S]at e;exact g1 (e ▸ T)
 ·rcases M6.mp Z with Z|Z
  ·exact h.el x Z
  ·rw[NV.mp Z];exact⟨by omega,by omega⟩
 ·rw[LW]at U;have U:j<r.length+1:=U;by_cases c:j<r.length
  ·rw[oj c,oj (by omega)]
   exact h.ok j c i hi
  ·have:j=r.length:=by omega
   subst this;rw[getD_last,oj hi];have:=g2 i (L9.mpr hi);unfold JR at this;exact Qc this
abbrev DX(n:Nat):List Int:=(ed n).map fun j:Nat=>(j:Int)
theorem Part.perm{z:List Int}(h:Part n E E' z)(X:z.length=n):z.Perm (DX n):=by
 refine(Pa h.nd (OK.mpr ((PY (n:=n)).imp fun h e=>h (by omega)))).mpr fun x=>⟨fun Y=>?_,fun Y=>?_⟩
 ·obtain⟨h0,W⟩:=h.el x Y;exact Mp.mpr ⟨x.toNat,L9.mpr (by omega),by omega⟩
 ·exact Ob fun c=>by
   have:(x::z).Nodup:=MM.mpr ⟨c,h.nd⟩;have:=yi (m:=DX n) this fun y Z=>by
    rcases Me.mp Z with rfl|Z
    ·exact Y
    ·obtain⟨h0,W⟩:=h.el y Z;exact Mp.mpr ⟨y.toNat,L9.mpr (by omega),by omega⟩
   rw[Ml,X,LR,Ms]at this;omega
theorem ym{l Z:List Int}(h:l.Perm Z):sortI l=sortI Z:=
 On (le:=(· <=·)) (fun a b _ _ x y=>Int.le_antisymm x y) (fq l) (fq Z) (((sortI_perm l).trans h).trans (sortI_perm Z).symm)
end
theorem Ij{a b:Int}:ib (.int a) (.int b)=a_ (.bl (!decide (a=b))):=bW fun S=>by
 unfold ib;refine(gU je je).mpr ⟨?_,rfl⟩;simp[gc];rfl
section
variable {n n':Nat}{E E':List (List Int)}{d e:D}
theorem ny(Z:n<=14)(w:WebOk n E):cH [ak n E]=a_ .non:=by
 rw[Do HR (Ff w),if_pos (Fd (by omega) (by omega) w)]
theorem wz(g:Good d)(Z:i3 d=c_):cH [d]=M.raise (.exc "NoWeb" []):=by
 rw[Do g.nr (fun m Y z=>Ma (g.few m Y z) (by decide)),if_neg (by rw[Z];decide)]
theorem wA(Y:n<=14)(w:WebOk n E):cD [ak n E,.int 7]=if 7<n then M.raise (great n)else a_ .non:=by
 have Z:dG FP (aX bA (mV 0) (mK (.int 0))) (mV 1) [ar (ak n E),ar (.int 7)]=a_ (decide (7<(n:Int))):=cm (x:=.int n) (y:=.int 7) rfl rfl rfl;by_cases h:7<n
 ·rw[if_pos h];exact dM ((aZ (lM (j7 ((g0 rfl).trans (ny Y w))))).trans ((bg Z).trans ((if_pos (L8 (by omega))).trans rfl)))
 ·rw[if_neg h];exact jl ((aZ (lM (j7 ((g0 rfl).trans (ny Y w))))).trans ((bg Z).trans (if_neg (by rw[Mu];omega)))) rfl
theorem mapped(U:n<=14)(w:WebOk n E)(Y:n'<=14)(T:WebOk n' E'):bQ [ak n E,ak n' E']=if 7<n then M.raise (great n)else if 7<n' then M.raise (great n')else a_ .non:=by
 have W:∀{m:cJ},aH (nF (aP (av cH (ae (mV 0) ao)))) (aH (nF (aP (av cH (ae (mV 1) ao)))) m) [ar (ak n E),ar (ak n' E')]=m [ar (ak n E),ar (ak n' E')]:=fun{m}=>(aZ (lM (j7 ((g0 rfl).trans (ny U w))))).trans (aZ (lM (j7 ((g0 rfl).trans (ny Y T)))));have Z:=wA U w;have X:=wA Y T;by_cases h:7<n
 ·rw[if_pos h]at Z⊢;exact dM (W.trans (gO (iU (DV ((call2 rfl rfl).trans Z)))))
 ·rw[if_neg h]at Z⊢;by_cases h':7<n'
  ·rw[if_pos h']at X⊢;exact dM (W.trans ((aZ (lM (j7 ((call2 rfl rfl).trans Z)))).trans (iU (DV ((call2 rfl rfl).trans X)))))
  ·rw[if_neg h']at X⊢;exact jl (W.trans ((aZ (lM (j7 ((call2 rfl rfl).trans Z)))).trans (lM (j7 ((call2 rfl rfl).trans X))))) rfl
theorem Fv(g:Good d)(Z:i3 d=c_):bQ [d,e]=M.raise (.exc "NoWeb" []):=dM (gO (iU (DV ((g0 rfl).trans (wz g Z)))))
theorem Fw(Y:n<=14)(w:WebOk n E)(g:Good d)(Z:i3 d=c_):bQ [ak n E,d]=M.raise (.exc "NoWeb" []):=dM ((aZ (lM (j7 ((g0 rfl).trans (ny Y w))))).trans (gO (iU (DV ((g0 rfl).trans (wz g Z))))))
theorem DF{x y:D}(h:bQ [d,e]=M.raise x):cO [d,e,y]=M.raise x:=
 dM (gO (iU (DV ((call2 rfl rfl).trans h))))
theorem Fx{a b:List Int}:ib (.fz (a.map D.int)) (.fz (b.map D.int))=a_ (.bl (!decide (a=b))):=bW fun S=>by
 have Z:∀l:List Int,ji S 60 (.fz (l.map D.int))=ar (.list (l.map q0)):=fun l=>by
  show(mapP (ji S 59) (l.map D.int)).map Qf=_;rw[lq];rfl
 unfold ib;refine(gU (Z a) (Z b)).mpr ⟨?_,rfl⟩;have:gc (.list (a.map q0)) (.list (b.map q0))=decide (a=b):=by
  unfold gc;exact kP a b
 rw[this]
end
def F7:D->Bool
 | .int _=>bc
 | .bl _=>bc
 | .non=>bc
 | .str s=>PyData.strOk s
 | .tup ds=>(intsOf ds).isSome
 |_=>c_
def isTup:D->Bool
 | .tup _=>bc
 |_=>c_
inductive Th:D->Prop
 |tup {ds:List D}:ds.length<=50->(∀x∈ds,F7 x=bc)->Th (.tup ds)
 |oth {d:D}:vG d=bc->isTup d=c_->Th d
theorem F8{x:D}(h:F7 x=bc):vG x=true:=by cases x<;>first|rfl|cases h
theorem DG{d:D}(h:vG d=bc):An (fun t=>iI t "tuple") d=a_ (.bl (isTup d)):=by cases d<;>first|rfl|cases h
theorem oY{p q:kb}{b c:Bool}{ρ:aQ}(Z:p ρ=a_ b)(Y:b=c_->q ρ=a_ c):oH p q ρ=a_ (b||c):=by
 show(p ρ>>=_)=_;rw[Z];cases b with
 |true=>rfl
 |false=>exact Y rfl
theorem not_eq{t:kb}{b:Bool}{ρ:aQ}(h:t ρ=a_ b):dq t ρ=a_ (!b):=by
 show(t ρ>>=_)=_;rw[h];rfl
def F9(E E':List (List Int))(z:List Int):Bool:=(ed z.length).all fun j=>DW E E' (z.take j) (z.getD j 0)
def rZ(n n':Nat)(E E':List (List Int)):D->Bool
 | .tup ds=>decide (n'=n) && (decide (ds.length=n) && (ds.all (cC n) && match intsOf ds with
  |some z=>F9 E E' z
  |none=>c_))
 |_=>c_
theorem fK{n:Nat}:∀{ds:List D},ds.all (cC n)=bc->∃z:List Int,ds=z.map D.int/\∀x∈z,0<=x/\x<n
 |[],_=>⟨[],rfl,fun x h=>by cases h⟩
 |d::ds,h=>by
  rw[Ou,MH]at h;obtain⟨i,rfl,h0,X⟩:=jD h.1;obtain⟨z,rfl,Y⟩:=fK h.2;exact⟨i::z,rfl,fun x Z=>by rcases Me.mp Z with rfl|Z;exact⟨h0,X⟩;exact Y x Z⟩
theorem om(z:List Int):lJ (z.map D.int)=(ed z.length).map fun i:Nat=>.tup [.int (i:Int),.int (z.getD i 0)]:=by
 unfold lJ;refine PX (by simp) fun i Y Z=>?_
 have hi:i<z.length:=by simpa using Z
 simp[m1,hi]
def Lv(E E':List (List Int))(z:List Int):D->D
 | .tup [.int i,.int x]=>.bl (DW E E' (z.take i.toNat) x)
 |d=>d
section
variable {n n':Nat}{E E':List (List Int)}
theorem Fy{z:List Int}{i:Nat}{ρ:aQ}{e1 e2:TM}(Y:e1 ρ=a_ (tupI z))(Z:e2 ρ=a_ (.int i))(X:z.length<=100):aP (nE e1 oN (oS e2)) ρ=a_ (tupI (z.take i)):=by
 refine j7 ?_;show(e1 ρ>>=fun x=>oN ρ>>=fun lo=>oS e2 ρ>>=fun hi=>uj x lo hi)=_;rw[Y,ay,show oN ρ=a_ none from rfl,ay,show oS e2 ρ=a_ (ar (i:Int)) by unfold oS;rw[Z];rfl,ay]
 show bU (S3.cutD (z.map D.int) none (ar (i:Int)))=_;rw[JP, <-Qe];unfold bU;rw[if_pos (by rw[LR,MK];unfold lim;omega)];rfl
theorem Fz{d:D}(H:n<=7)(w:WebOk n E)(K:n'<=7)(L:WebOk n' E')(h:Th d):cO [ak n E,ak n' E',d]=a_ (.bl (rZ n n' E E' d)):=by
 have hm:bQ [ak n E,ak n' E']=a_ .non:=by rw[mapped (by omega) w (by omega) L,if_neg (by omega),if_neg (by omega)]
 have S:vG d=true:=by cases h with|tup=>rfl|oth h _=>exact h
 have T:dG ib (aX bA (mV 1) (mK (.int 0))) (mV 3) [ar (ak n E),ar (ak n' E'),ar d,ar (.int n)]=a_ (!decide ((n':Int)=n)):=cm (x:=.int n') (y:=.int n) rfl rfl Ij;have R:dq (bV (fu (mV 2) "tuple")) [ar (ak n E),ar (ak n' E'),ar d,ar (.int n)]=a_ (!isTup d):=not_eq (g9 (DG S));have st:∀{m:cJ} {o:Out},m [ar (ak n E),ar (ak n' E'),ar d,ar (.int n)]=a_ o->aH (nF (aP (av bQ (ae (mV 0) (ae (mV 1) ao))))) (aH (bH 3 (aX bA (mV 0) (mK (.int 0)))) m) [ar (ak n E),ar (ak n' E'),ar d,none]=a_ o:=fun h=>((aZ (lM (j7 ((call2 rfl rfl).trans hm)))).trans (aZ (n4 (x:=.int n) rfl))).trans h;by_cases hnn:n'=n
 ·subst hnn;cases h with
  |oth _ ht=>
   have Y:=oY (q:=oH (dq (bV (fu (mV 2) "tuple"))) (dG ib (b9 cz (mV 2)) (mV 3))) (c:=bc) T fun _=>(oY (c:=bc) R fun z=>by rw[ht]at z;cases z).trans (by rw[ht];rfl)
   refine jl (o:=.ret (.bl c_)) (st (cW ((bg Y).trans ((if_pos (P5 _)).trans rfl)))) ?_;show a_ (D.bl c_)=a_ (D.bl _);congr 2;cases d<;>first|rfl|cases ht
  | tup hl hel=>
   rename_i ds
   have hlen:b9 cz (mV 2) [ar (ak n' E),ar (ak n' E'),ar (.tup ds),ar (.int n')]=a_ (.int ds.length):=eh (x:=.tup ds) rfl;have Y:=oY (q:=oH (dq (bV (fu (mV 2) "tuple"))) (dG ib (b9 cz (mV 2)) (mV 3))) (c:= !decide ((ds.length:Int)=n')) T fun _=>oY R fun _=>cm hlen (y:=.int n') rfl Ij;have O:(!decide ((n':Int)=n')|| !decide ((ds.length:Int)=n'))= !decide (ds.length=n'):=by
    rw[L8 rfl,OZ,Bool.false_or];congr 1;exact decide_eq_decide.mpr (by omega)
   rw[O]at Y;have P:rZ n' n' E E' (.tup ds)=(decide (ds.length=n') && (ds.all (cC n') && match intsOf ds with|some z=>F9 E E' z|none=>c_)):=by
    show(decide (n'=n') && _)=_;rw[L8 rfl,M4]
   rw[P];by_cases hln:ds.length=n'
   ·rw [L8 hln,OZ]at Y;rw[L8 hln,M4];have em:(ds.filter fun _=>bc).map (fun d=>D.bl (cC n' d))=(ds.map (cC n')).map D.bl:=by rw[e9,My];rfl
    have Q:=wo (mi:=iq (mV 2)) (g:=gN 0) (t:=gx) (m:=gy) (js:=[none,ar 3]) (ρ:=[ar (ak n' E),ar (ak n' E'),ar (.tup ds),ar (.int n')]) (its:=ds) (fun ρ=>∃x,ρ=[x,ar (.int n')]) (fun _=>bc) (fun d=>D.bl (cC n' d)) rfl (by unfold lim;omega) ⟨none,rfl⟩
     (fun d hd ρ ⟨x,hρ⟩=>by
      subst hρ;exact⟨[ar d,ar (.int n')],rfl,⟨_,rfl⟩,rfl,fun _=>j7 ((call2 (x:=.int n') (y:=d) rfl rfl).trans (uP (F8 (hel d hd))))⟩) (by rw[em];exact jW _)
    rw[em]at Q;have Z:dq (bV (b9 mR (aP (ER (cq (iq (mV 2)) (gN 0) gx gy [none,ar 3]))))) [ar (ak n' E),ar (ak n' E'),ar (.tup ds),ar (.int n')]=a_ (!ds.all (cC n')):=not_eq (g9 ((eh Q).trans (kN.trans (by rw[Nv];rfl))))
    have s1:=(bg (m:=bp (mK (.bl c_))) (n:=cK) Y).trans (if_neg (by decide))
    by_cases X:ds.all (cC n')=bc
    ·rw[X,OZ]at Z;rw[X,M4];obtain⟨z,rfl,I⟩:=fK X;rw[fX];rw[LR]at hl hln;have W:((lJ (z.map D.int)).filter fun _=>bc).map (Lv E E' z)=((ed z.length).map fun j=>DW E E' (z.take j) (z.getD j 0)).map D.bl:=by
      rw[om,e9,My,My];rfl
     have U:=wo (mi:=FV (mV 2)) (g:=fE 2 (bb (gN 0) (bb (gN 1) dY))) (t:=iR) (m:=iS) (js:=[none,none,ar 0,ar 1,ar 2]) (ρ:=[ar (ak n' E),ar (ak n' E'),ar (tupI z),ar (.int n')]) (its:=lJ (z.map D.int)) (fun ρ=>∃x y,ρ=[x,y,ar (ak n' E),ar (ak n' E'),ar (tupI z)]) (fun _=>bc) (Lv E E' z) rfl (by rw[om,LR,Ms];unfold lim;omega) ⟨none,none,rfl⟩
      (fun d hd ρ ⟨x,y,hρ⟩=>by
       subst hρ;rw[om]at hd;obtain⟨i,hi,rfl⟩:=Mp.mp hd;have hi:=L9.mp hi;refine⟨[ar (.int i),ar (.int (z.getD i 0)),ar (ak n' E),ar (ak n' E'),ar (tupI z)],rfl,⟨_,_,rfl⟩,rfl,fun _=>j7 ?_⟩;have N:aN (mV 2) (aN (mV 3) (aN (aP (nE (mV 4) oN (oS (mV 0)))) (aN (mV 1) ao))) [ar (.int i),ar (.int (z.getD i 0)),ar (ak n' E),ar (ak n' E'),ar (tupI z)]=a_ [ak n' E,ak n' E',tupI (z.take i),.int (z.getD i 0)]:=a7 (x:=ak n' E) rfl (a7 (x:=ak n' E') rfl (a7 (Fy (z:=z) (i:=i) rfl rfl (by omega)) (a7 (x:=.int (z.getD i 0)) rfl (es:=ao) rfl)))
       show(aN _ _ _>>=iF)=_;rw[N,ay];exact Ii (by rw[MK];omega)) (by rw[W];exact jW _)
     rw[W]at U;refine jl (o:=.ret (.bl (F9 E E' z))) (st ((aZ s1).trans ((aZ ((bg Z).trans (if_neg (by decide)))).trans (fe ((eh U).trans (kN.trans ?_)))))) rfl
     rw[Nv];rfl
    ·have X:ds.all (cC n')=false:=by simpa using X
     rw[X,Pm]at Z;rw[X,M0];exact jl (o:=.ret (.bl c_)) (st ((aZ s1).trans (cW ((bg Z).trans ((if_pos rfl).trans rfl))))) rfl
   ·rw[Mj hln,Pm]at Y;rw[Mj hln,M0];exact jl (o:=.ret (.bl c_)) (st (cW ((bg Y).trans ((if_pos rfl).trans rfl)))) rfl
 ·have J:((n':Int)=n)=False:=eq_false (by omega)
  have Y:=oY (q:=oH (dq (bV (fu (mV 2) "tuple"))) (dG ib (b9 cz (mV 2)) (mV 3))) (c:=bc) T fun z=>by
   rw[Mj (by omega)]at z;cases z
  refine jl (o:=.ret (.bl c_)) (st (cW ((bg Y).trans ((if_pos (P5 _)).trans rfl)))) ?_;show a_ (D.bl c_)=a_ (D.bl _);congr 2;cases d<;>first|rfl|(show c_=(decide (n'=n) && _);rw[Mj hnn];rfl)
end
theorem DH{d:D}(h:Dh d):gp [d]=a_ (.bl (ig d)):=uN h
theorem rp:∀{ds:List D} {ns:List Int},intsOf ds=ar ns->ds=ns.map D.int
 |[],ns,e=>by cases e;rfl
 | d::ds,ns,e=>by
  cases d with
  | int i=>
   cases hq:intsOf ds with
   |none=>simp[intsOf,hq]at e
   |some ms=>
    simp[intsOf,hq]at e;subst e;rw[rp hq];rfl
  |_=>simp[intsOf]at e
theorem Ga:∀{us:List D},(∀x∈us,F7 x=bc)->cG 0 us=bc
 |[],_=>rfl
 | x::us,h=>by
  have X:fU 0 x=true:=by
   have Z:=h x (.head _);cases x with
   |tup ds=>
    have Z:(intsOf ds).isSome=true:=Z;obtain⟨ns,e⟩:=MO.mp Z;rw[rp e];exact yf ns
   |int i=>rfl
   |bl b=>rfl
   |non=>rfl
   |str s=>rfl
   |_=>cases Z
  unfold cG;rw[X,Ga fun y Y=>h y (.tail _ Y)];rfl
theorem rq:∀{ds:List D},(ds.filter fun d=> !ig d).isEmpty=bc->∃z:List Int,ds=z.map D.int
 |[],_=>⟨[],rfl⟩
 | d::ds,h=>by
  cases hw:ig d with
  |false=>rw[NK (by rw[hw];rfl)]at h;cases h
  |true=>
   rw[NL (by rw[hw];decide)]at h
   obtain⟨z,rfl⟩:=rq h;cases d<;>first|(cases hw)|skip
   exact⟨_::z,rfl⟩
section
variable {n n':Nat}{E E':List (List Int)}
def DI(E E':List (List Int))(z:List Int)(b:Nat):List Nat:=(ed b).filter fun a:Nat=>tB E (a:Int) (b:Int) !=tB E' (z.getD a 0) (z.getD b 0)
def Ik(n:Nat)(E E':List (List Int))(z:List Int):Bool:=decide (sortI z=DX n) && (ed n).all fun b=>(DI E E' z b).isEmpty
theorem yn(n:Nat):sortI (DX n)=DX n:=
 On (le:=(· <=·)) (fun a b _ _ x y=>Int.le_antisymm x y) (fq _) (OK.mpr (List.pairwise_le_range.imp fun h=>by omega)) (sortI_perm _)
theorem A7{z:List Int}{i j:Nat}(h:i<j):(z.take j).getD i 0=z.getD i 0:=by
 rw[LY,LY,NW,if_pos h]
theorem wB{z:List Int}(Y:∀x∈z,0<=x/\x<n)(h:F9 E E' z=bc):Part n E E' z:=by
 have X:∀j,j<z.length->DW E E' (z.take j) (z.getD j 0)=true:=fun j Z=>Mf.mp h j (L9.mpr Z);have hs:∀j,j<=z.length->Part n E E' (z.take j):=fun j=>by
  induction j with
  |zero=>exact fun _=>Part.nil
  | succ j ih=>
   intro Z;have U:=Y (z.getD j 0) (by rw[LY,LV (by omega)];exact M1 _)
   refine(ih (by omega)).ext ?_
   unfold W.ext;refine Mp.mpr ⟨(z.getD j 0).toNat,O2.mpr ⟨L9.mpr (by omega),?_⟩,?_⟩
   ·rw[show(((z.getD j 0).toNat:Nat):Int)=z.getD j 0 by omega]
    exact X j (by omega)
   ·rw[show(((z.getD j 0).toNat:Nat):Int)=z.getD j 0 by omega,List.take_succ,LY,LV (by omega)];rfl
 have:=hs z.length (LU _);rw[List.take_length]at this;exact this
theorem yo{z:List Int}:(decide (z.length=n) && ((z.map D.int).all (cC n) && F9 E E' z))=Ik n E E' z:=by
 have Z:(z.map D.int).all (cC n)=bc↔∀x∈z,0<=x/\x<n:=by
  rw[Nv,Mf];refine forall_congr' fun x=>imp_congr_right fun _=>?_;show(decide (0<=x) && decide (x<n))=bc↔_;rw[MH,Mu,Mu]
 unfold Ik;rw[Oy,MH,MH,MH,Mu,Mu,Z,Mf];constructor
 ·rintro⟨X,hr,hg⟩;have P:=wB hr hg;refine⟨(ym (P.perm X)).trans (yn n),fun b U=>?_⟩;have U:=L9.mp U;unfold DI;rw[OS,NS];intro a T;rw[P.ok b (by omega) a (L9.mp T)]
  simp
 ·rintro⟨hs,hw⟩;have W:z.Perm (DX n):=(sortI_perm z).symm.trans (by rw[hs])
  have X:z.length=n:=by rw[W.length_eq,LR,Ms]
  have R:z.Nodup:=W.nodup_iff.mpr (OK.mpr ((PY (n:=n)).imp fun h e=>h (by omega)))
  refine⟨X,fun x S=>?_,Mf.mpr fun j Y=>?_⟩
  ·obtain⟨j,Y,rfl⟩:=Mp.mp (W.mem_iff.mp S);have:=L9.mp Y;exact⟨by omega,by omega⟩
  ·have Y:=L9.mp Y;unfold DW;rw[MH,Mf];have lt:(z.take j).length=j:=by rw[MK];omega
   constructor
   ·have:rm (z.getD j 0) (z.take j)=false:=by
     cases hq:rm (z.getD j 0) (z.take j)with
     |false=>rfl
     |true=>
      obtain⟨i,hi,e⟩:=OV.mp (zR.mp hq);rw[List.getElem_take]at e;rw[LY,LV Y]at e;have:=(PN R).mp e;omega
    rw[this];rfl
   ·intro i hi;rw[lt]at hi;have hi:=L9.mp hi;have:=hw j (L9.mpr (by omega))
    unfold DI at this;rw[OS,NS]at this;have:=this i (L9.mpr hi);unfold JR;rw[lt,A7 hi];simpa using this
end
section
variable {n n':Nat}{E E':List (List Int)}{its:List D}
abbrev qc(E E':List (List Int))(z:List Int)(a b:Nat):Bool:=tB E (a:Int) (b:Int)==tB E' (z.getD a 0) (z.getD b 0)
theorem JU{z:List Int}{a:Nat}:(DI E E' z a).isEmpty=(ed a).all (qc E E' z a):=by
 unfold DI qc;rw[Oy,OS,NS,Mf];refine forall_congr' fun b=>imp_congr_right fun _=>?_;rw[zS (a:=(b:Int)),zS (a:=z.getD b 0)];simp
theorem Lw{z:List Int}{ρ:aQ}{v e:TM}{c:Nat}(Y:e ρ=a_ (tupI z))(X:c<z.length)(Z:v ρ=a_ (.int c)):aX bA e v ρ=a_ (.int (z.getD c 0)):=by
 refine(cQ Y Z).trans ((fT (by omega) (by omega)).trans ?_)
 rw[MB]
theorem FA(l:List Int):∀x∈l.map D.int,F7 x=true:=fun x Z=>by
 obtain⟨i,_,rfl⟩:=Mp.mp Z;rfl
theorem DJ{z:List Int}{a:Nat}(Z:a<z.length):∀(post:List Nat) (x4:Option D),(∀b∈post,b<a)->∃Y,eG ⟨its,.none⟩ (gN 4) gL (post.map fun i:Nat=>D.int (i:Int)) [ar (ak n E),ar (ak n' E'),ar (tupI z),ar (.int a),x4]=a_ (if post.all (qc E E' z a)=bc then .nx [ar (ak n E),ar (ak n' E'),ar (tupI z),ar (.int a),Y]else .ret (.bl c_))
 |[],x4,_=>⟨x4,gW⟩
 | b::post,x4,h=>by
  have W:b<z.length:=OP (h b (.head _)) Z;have T:=j7 (e:=av dP (ae (mV 0) (ae (mV 3) (ae (mV 4) ao)))) (ρ:=[ar (ak n E),ar (ak n' E'),ar (tupI z),ar (.int a),ar (.int b)]) ((iW (x:=ak n E) (y:=.int a) (z:=.int b) rfl rfl rfl).trans zN);have R:=j7 (e:=av dP (ae (mV 1) (ae (aX bA (mV 2) (mV 3)) (ae (aX bA (mV 2) (mV 4)) ao)))) (ρ:=[ar (ak n E),ar (ak n' E'),ar (tupI z),ar (.int a),ar (.int b)]) ((iW (x:=ak n' E') rfl (Lw rfl Z rfl) (Lw rfl W rfl)).trans zN);have X:=cm T R Li;cases hw:qc E E' z a b with
  |true=>
   obtain⟨Y,S⟩:=DJ Z post (ar (.int b)) fun c U=>h c (.tail _ U);refine⟨Y,?_⟩;rw[Ou,hw,M4, <-S];exact zQ rfl ((bg X).trans (if_neg (by unfold bne;unfold qc at hw;rw[hw];decide)))
  |false=>
   refine⟨x4,?_⟩;rw[Ou,hw,M0,if_neg (by decide)]
   exact zO rfl ((bg X).trans ((if_pos (by unfold bne;unfold qc at hw;rw[hw];rfl)).trans rfl))
theorem DK{z:List Int}(S:z.length<=100):∀(post:List Nat) (x3 x4:Option D),(∀b∈post,b<z.length)->∃U Z,eG ⟨its,.none⟩ (gN 3) cR (post.map fun i:Nat=>D.int (i:Int)) [ar (ak n E),ar (ak n' E'),ar (tupI z),x3,x4]=a_ (if (post.all fun b=>(DI E E' z b).isEmpty)=bc then .nx [ar (ak n E),ar (ak n' E'),ar (tupI z),U,Z]else .ret (.bl c_))
 |[],x3,x4,_=>⟨x3,x4,gW⟩
 | b::post,x3,x4,h=>by
  have W:=h b (.head _);obtain⟨Z,hf⟩:=DJ (n:=n) (n':=n') (E:=E) (E':=E') (its:=(ed b).map fun i:Nat=>D.int (i:Int)) W (ed b) x4 fun c X=>L9.mp X;rw[<-JU]at hf;have Y:cR [ar (ak n E),ar (ak n' E'),ar (tupI z),ar (.int b),x4]=a_ (if (DI E E' z b).isEmpty=bc then .nx [ar (ak n E),ar (ak n' E'),ar (tupI z),ar (.int b),Z]else .ret (.bl c_)):=by
   unfold cR jB;rw[show oJ (mV 3) [ar (ak n E),ar (ak n' E'),ar (tupI z),ar (.int b),x4]=_ from Ih (n:=b) rfl (by omega),ay]
   exact hf
  cases hw:(DI E E' z b).isEmpty with
  |true=>
   obtain⟨U,T,R⟩:=DK S post (ar (.int b)) Z fun c X=>h c (.tail _ X);refine⟨U,T,?_⟩;rw[hw,if_pos rfl]at Y;rw[Ou,hw,M4, <-R];exact zQ rfl Y
  |false=>
   refine⟨x3,x4,?_⟩;rw[hw,if_neg (by decide)]at Y
   rw[Ou,hw,M0,if_neg (by decide)]
   exact zO rfl Y
theorem Il{d:D}(F:n<=7)(h:Th d):eE [ak n E,ak n' E',d]=a_ (.bl (rZ n n' E E' d)):=by
 have N:vG d=true:=by cases h with|tup=>rfl|oth h _=>exact h
 have P:dG ib (aX bA (mV 0) (mK (.int 0))) (aX bA (mV 1) (mK (.int 0))) [ar (ak n E),ar (ak n' E'),ar d,none,none]=a_ (!decide ((n:Int)=n')):=cm (x:=.int n) (y:=.int n') rfl rfl Ij;have T:dq (bV (fu (mV 2) "tuple")) [ar (ak n E),ar (ak n' E'),ar d,none,none]=a_ (!isTup d):=not_eq (g9 (DG N));by_cases hnn:n'=n
 ·subst hnn;cases h with
  |oth _ ht=>
   have Z:=oY P fun _=>T;refine dW (o:=.ret (.bl c_)) (cW ((bg Z).trans ((if_pos (by rw[ht];exact P5 _)).trans rfl))) ?_
   show a_ (D.bl c_)=a_ (D.bl _);congr 2;cases d<;>first|rfl|cases ht
  | tup hl hel=>
   rename_i ds
   have em:(ds.filter fun _=>bc).map (fun d=>D.bl (ig d))=(ds.map ig).map D.bl:=by rw[e9,My];rfl
   have L:=iT (mi:=iq (mV 2)) (g:=gN 0) (t:=fy) (m:=fA) (js:=[none]) (ρ:=[ar (ak n' E),ar (ak n' E'),ar (.tup ds),none,none]) (its:=ds) (fun ρ=>∃x,ρ=[x]) (fun _=>bc) (fun d=>D.bl (ig d)) rfl (by unfold lim;omega) ⟨none,rfl⟩
    (fun d hd ρ ⟨x,hρ⟩=>by
     subst hρ;exact⟨[ar d],rfl,⟨_,rfl⟩,rfl,fun _=>j7 ((g0 rfl).trans (DH (F8 (hel d hd))))⟩) (by rw[em];exact jW _)
   rw[em]at L;have X:dq (bV (b9 mR (aP (cq (iq (mV 2)) (gN 0) fy fA [none])))) [ar (ak n' E),ar (ak n' E'),ar (.tup ds),none,none]=a_ (!ds.all ig):=not_eq (g9 ((eh L).trans (kN.trans (by rw[Nv];rfl))))
   have Z:=oY P fun _=>T;have s0:=(bg (m:=bp (mK (.bl c_))) (n:=cK) Z).trans (if_neg (by rw[L8 rfl];exact(by decide:¬ (c_=bc))))
   have K:rZ n' n' E E' (.tup ds)=(decide (ds.length=n') && (ds.all (cC n') && match intsOf ds with|some z=>F9 E E' z|none=>c_)):=by
    show(decide (n'=n') && _)=_;rw[L8 rfl,M4]
    all_goals rfl
   rw[K];by_cases hw:ds.all ig=bc
   ·obtain⟨z,rfl⟩:=rq (ds:=ds) (by
     rw[OS,NS];intro x Q;rw[Mf.mp hw x Q];decide)
    rw[hw,OZ]at X;rw[fX,LR];rw[LR]at hl;rw[yo];have s1:=(bg (m:=bp (mK (.bl c_))) (n:=cK) X).trans (if_neg (by decide))
    have S:aP (b9 iN (mV 2)) [ar (ak n' E),ar (ak n' E'),ar (.tup (z.map D.int)),none,none]=a_ (.fz ((sortI z).map D.int)):=by
     unfold aP;rw[eh (x:=.tup (z.map D.int)) rfl];have:iN [.tup (z.map D.int)]=bJ ((sortI z).map D.int):=by
      show(match intsOf (z.map D.int)with|some ns=>if ns.length<64 then bJ ((sortI ns).map D.int)else M.fail|none=>M.fail)=_
      rw[fX];exact if_pos (by omega)
     rw[this];exact cL (j3 _) (by rw[LR,(sortI_perm z).length_eq];unfold lim;omega)
    have R:aP (b9 dm (aX bA (mV 0) (mK (.int 0)))) [ar (ak n' E),ar (ak n' E'),ar (.tup (z.map D.int)),none,none]=a_ (.fz ((DX n').map D.int)):=by
     unfold aP;rw[eh (x:=.int n') rfl,JN (j:=n') ⟨by omega,by unfold lim;omega⟩,MB,JS,show(ed n').map (fun i:Nat=>D.int (i:Int))=(DX n').map D.int by rw[My];rfl]
     exact cL (j3 _) (by rw[LR,LR,Ms];unfold lim;omega)
    have U:dG ib (aP (b9 iN (mV 2))) (aP (b9 dm (aX bA (mV 0) (mK (.int 0))))) [ar (ak n' E),ar (ak n' E'),ar (.tup (z.map D.int)),none,none]=a_ (!decide (sortI z=DX n')):=cm S R Fx;unfold Ik;by_cases hs:sortI z=DX n'
    ·rw[L8 hs,M4];rw[L8 hs,OZ]at U;have I:z.length=n':=by
      have:=N4 G2 hs;rw[(sortI_perm z).length_eq,LR,Ms]at this;exact this
     obtain⟨J,H,Y⟩:=DK (n:=n') (n':=n') (E:=E) (E':=E') (z:=z) (its:=(ed n').map fun i:Nat=>D.int (i:Int)) (by omega) (ed n') none none fun b Z=>by have:=L9.mp Z;omega
     have W:jB (oJ (aX bA (mV 0) (mK (.int 0)))) (gN 3) cR [ar (ak n' E),ar (ak n' E'),ar (tupI z),none,none]=a_ (if ((ed n').all fun b=>(DI E E' z b).isEmpty)=bc then .nx [ar (ak n' E),ar (ak n' E'),ar (tupI z),J,H]else .ret (.bl c_)):=by
      unfold jB;rw[show oJ (aX bA (mV 0) (mK (.int 0))) [ar (ak n' E),ar (ak n' E'),ar (tupI z),none,none]=_ from Ih (n:=n') rfl (by omega),ay]
      exact Y
     have s2:=(bg (m:=bp (mK (.bl c_))) (n:=cK) U).trans (if_neg (by decide))
     refine dW (o:=.ret (.bl ((ed n').all fun b=>(DI E E' z b).isEmpty))) ((aZ s0).trans ((aZ s1).trans ((aZ s2).trans ?_))) rfl;cases hq:(ed n').all fun b=>(DI E E' z b).isEmpty with
     |true=>
      rw[hq,if_pos rfl]at W;exact(aZ W).trans rfl
     |false=>
      rw[hq,if_neg (by decide)]at W
      exact cW W
    ·rw[Mj hs,M0];rw[Mj hs,Pm]at U;exact dW (o:=.ret (.bl c_)) ((aZ s0).trans ((aZ s1).trans (cW ((bg U).trans ((if_pos rfl).trans rfl))))) rfl
   ·have O:ds.all ig=false:=by simpa using hw
    rw[O,Pm]at X;have G:ds.all (cC n')=false:=by
     cases hq:ds.all (cC n')with
     |false=>rfl
     |true=>
      obtain⟨z,rfl,_⟩:=fK hq;exact absurd (Mf.mpr fun x Q=>by obtain⟨i,_,rfl⟩:=Mp.mp Q;rfl) hw
    rw[G,M0,Pi];exact dW (o:=.ret (.bl c_)) ((aZ s0).trans (cW ((bg X).trans ((if_pos rfl).trans rfl)))) rfl
 ·have Z:=oY P fun _=>T;refine dW (o:=.ret (.bl c_)) (cW ((bg Z).trans ((if_pos (by rw[Mj (by omega)];rfl)).trans rfl))) ?_
  show a_ (D.bl c_)=a_ (D.bl _);congr 2;cases d<;>first|rfl|(show c_=(decide (n'=n) && _);rw[Mj hnn];rfl)
end
section
variable {α:Type}{l:List α}{mk f:α->D}{mi:aQ->M Iter}{g:nD}{t:kb}{m:TM}{ρ:aQ}{js:List (Option Nat)}{its:List D}
theorem DL(R:aQ->Prop)(q:α->Bool):∀(l:List α) (ρ:aQ),R ρ->(∀a∈l,∀ ρ,R ρ->∃Z,g (mk a) ρ=a_ Z/\R Z/\t Z=a_ (q a)/\(q a=bc->m Z=a_ (f a)))->dz ⟨its,.none⟩ g t m (l.map mk) ρ=a_ ((l.filter q).map f)
 |[],ρ,_,_=>by unfold dz;rw[eV];rfl
 |a::l,ρ,hR,h=>by
  obtain⟨Z,W,Y,S,T⟩:=h a (.head _) ρ hR;have U:=DL R q l Z Y fun b X=>h b (.tail _ X);rw[Mh];unfold dz;rw[eV,ay,W,ay,S,ay,U];cases hq:q a with
  |true=>rw[NK hq,if_pos rfl,T hq,ay];rfl
  |false=>rw[NL (by rw[hq];decide),if_neg (by decide)]
theorem DM(R:aQ->Prop)(q:α->Bool)(hi:mi ρ=a_ ⟨l.map mk,.none⟩)(Y:l.length<=lim)(X:R (j9 js ρ))(Z:∀a∈l,∀ ρ,R ρ->∃ ρ1,g (mk a) ρ=a_ ρ1/\R ρ1/\t ρ1=a_ (q a)/\(q a=bc->m ρ1=a_ (f a))):
  cq mi g t m js ρ=bJ ((l.filter q).map f):=by
 unfold cq;rw[hi,ay];unfold i5;rw[if_pos (by show(l.map mk).length<=lim;rw[LR];exact Y)]
 show(dz _ g t m (l.map mk) _>>=_)=_;rw[DL R q l _ X Z,ay]
theorem JV(R:aQ->Prop)(q:α->Bool)(hi:mi ρ=a_ ⟨l.map mk,.none⟩)(Z:l.length<=lim)(W:R (j9 js ρ))(Y:∀a∈l,∀ ρ,R ρ->∃ ρ1,g (mk a) ρ=a_ ρ1/\R ρ1/\t ρ1=a_ (q a)/\(q a=bc->m ρ1=a_ (f a)))
  (X:cG 0 ((l.filter q).map f)=bc):aP (cq mi g t m js) ρ=a_ (.fz ((l.filter q).map f)):=by
 unfold aP;rw[DM R q hi Z W Y];exact cL X (by rw[LR];exact Ma (Ny _ _) Z)
theorem JW(R:aQ->Prop)(q:α->Bool)(hi:mi ρ=a_ ⟨l.map mk,.none⟩)(Z:l.length<=lim)(W:R (j9 js ρ))(Y:∀a∈l,∀ ρ,R ρ->∃ ρ1,g (mk a) ρ=a_ ρ1/\R ρ1/\t ρ1=a_ (q a)/\(q a=bc->m ρ1=a_ (f a)))
  (X:cG 0 ((l.filter q).map f)=bc):aP (ER (cq mi g t m js)) ρ=a_ (.fz ((l.filter q).map f)):=by
 unfold aP ER;rw[DM R q hi Z W Y,tj];exact cL X (by rw[LR];exact Ma (Ny _ _) Z)
end
theorem wC{S:aF}{xs:List D}{d:D}(Z:xs.length<=1000):dE (.lst S.length) [d] (S++[xs])=ar (.ok .non,S++[xs++[d]]):=by
 show(getL S.length>>=fun xs=>lA S.length (xs++[d])) (S++[xs])=_;rw[aO (cX (cB (S:=S) (xs:=xs))),lp (by rw[LW];show xs.length+1<=lim;unfold lim;omega) (by simp)]
 rw[List.set_append_right _ _ (LU _),QW];rfl
theorem wD{S:aF}{xs:List D}(Z:xs.length<=lim):cY [.lst S.length] (S++[xs])=ar (.ok (.tup xs),S++[xs]):=by
 show(getL S.length>>=bU) (S++[xs])=_;rw[aO (cX (cB (S:=S) (xs:=xs)))];unfold bU;rw[if_pos Z];rfl
theorem forA{α:Type}{mk:α->D}{f:α->List D}{g:nD}{b:cJ}{its:List D}{S:aF}(c:Nat)(R:aQ->Prop):∀(l:List α) (xs:List D) (ρ:aQ),R ρ->xs.length+l.length*c<=1000->
  (∀a∈l,(f a).length<=c/\∀ ρ xs,R ρ->xs.length<=1000->∃Y Z,g (mk a) ρ=a_ Y/\R Z/\b Y (S++[xs])=ar (.ok (.nx Z),S++[xs++f a]))->
  ∃ ρ',R ρ'/\eG ⟨its,.none⟩ g b (l.map mk) ρ (S++[xs])=ar (.ok (.nx ρ'),S++[xs++l.flatMap f])
 |[],xs,ρ,hR,_,_=>⟨ρ,hR,by rw[Np,gW,List.flatMap_nil,MI];rfl⟩
 |a::l,xs,ρ,hR,hl,h=>by
  rw[Ml,QV]at hl;obtain⟨P,U⟩:=h a (.head _);obtain⟨Y,Z,e1,Q,e2⟩:=U ρ xs hR (by omega)
  obtain⟨ρ',W,T⟩:=forA c R l (xs++f a) Z Q (by rw[LW];omega) fun x X=>h x (.tail _ X)
  refine⟨ρ',W,?_⟩;rw[Mh,iV e1 e2,T,PH,Mr]
theorem FB{c:M D}{S:aF}{us:List D}(h:c S=ar (.ok (.lst S.length),S++[us]))(Y:cG 0 us=bc):jt c S=ar (.ok (.fz us),S):=by
 obtain⟨d,Z,e,rfl,rfl⟩:=wg (Q:=fun d Z=>d= .fz us/\Z=S) ⟨_,_,h,[us],S.length,us,rfl,rfl,cB,LU _,jQ (Mg _) _ Y,rfl,rfl⟩;exact e
theorem things{es:aQ->M (List D)}{ρ:aQ}{us:List D}(Z:es ρ=a_ us)(Y:cG 0 us=bc)(X:us.length<=50):aP (bx es) ρ=a_ (.fz us):=by
 show jt (es ρ>>=bJ)=_;rw[Z,ay];exact cL Y (by unfold lim;omega)
theorem A8{es:aQ->M (List D)}{ρ:aQ}{S:aF}{us:List D}(Z:es ρ S=ar (.ok us,S))(Y:cG 0 us=bc)(X:us.length<=50):aP (bx es) ρ S=ar (.ok (.fz us),S):=
 FB (jX Z (by unfold lim;omega)) Y
theorem wF{S:aF}{xs:List D}{j:Int}{v:D}(Z:0<=j)(Y:j<xs.length)(X:xs.length<=1000):gY (.lst S.length) (.int j) v (S++[xs])=ar (.ok (),S++[xs.set j.toNat v]):=by
 show(getL S.length>>=fun xs=>match wZ xs.length j with|some at'=>(do let _<-lA S.length (xs.set at' v);a_ ())|none=>M.fail) (S++[xs])=_
 rw[aO (cX (cB (S:=S) (xs:=xs))),show wZ xs.length j=ar j.toNat by unfold wZ;rw[if_pos Z,if_pos Y]]
 show(lA S.length (xs.set j.toNat v)>>=_) _=_;rw[aO (lp (by rw[M9];unfold lim;omega) (by simp)),List.set_append_right _ _ (LU _),QW];rfl
theorem DN{f:D->List D->M D}{e1 e2:TM}{ρ:aQ}{xs:List D}{y:D}(Y:e1 ρ=a_ (.tup xs))(Z:e2 ρ=a_ y):AU f e1 e2 ρ=f (.tup xs) [y]:=by
 unfold AU;rw[Y,ay,show Lq (.tup xs)=a_ ()from rfl,ay,Z,ay,ay,ay]
abbrev pr(a b:Int):List Int:=[if b<a then b else a,if b>a then b else a]
theorem JX(a b:Int):sortI [a,b]=pr a b:=by
 show(if a<=b then [a,b]else [b,a])=_;unfold pr;split
 ·rw[if_neg (by omega)]
  by_cases h:b>a
  ·rw[if_pos h]
  ·rw[if_neg h,show b=a by omega]
 ·rw[if_pos (by omega),if_neg (by omega)]
def uZ(z t:List Int):List Int:=pr (z.getD (t.getD 0 0).toNat 0) (z.getD (t.getD 1 0).toNat 0)
def lC(E E':List (List Int))(z:List Int):List Int:=E.map fun t=>((E'.idxOf (uZ z t):Nat):Int)
theorem wH(s:List Int):∀rs:List (List Int),s∈rs->(rs.map jZ).findIdx? (fun y=>gc y (jZ s))=ar (rs.idxOf s)
 |[],h=>by cases h
 | r::rs,h=>by
  have e:gc (jZ r) (jZ s)=decide (r=s):=by
   unfold jZ gc;exact kP r s
  rw[Mh,List.findIdx?_cons,e,List.idxOf_cons];by_cases hr:r=s
  ·rw[if_pos (L8 hr),P7.mpr hr];rfl
  ·rw[if_neg (by rw[Mu];exact hr),Ox hr,wH s rs ((Me.mp h).resolve_left fun z=>hr z.symm)];rfl
theorem tI{s:List Int}{Z:List (List Int)}(h:s∈Z):kH (.tup (Z.map tupI)) [tupI s]=a_ (.int (Z.idxOf s)):=by
 funext S;have Y:ji S 60 (.tup (Z.map tupI))=ar (.tuple (Z.map jZ)):=by
  show(mapP (ji S 59) (Z.map tupI)).map w8=_;rw[n5];rfl
 unfold kH;dsimp only;rw[Y,lr];dsimp only;rw[wH s Z h];rfl
section
variable {n:Nat}{E E':List (List Int)}{z:List Int}
theorem DO(w:WebOk n E)(O:rZ n n E E' (tupI z)=bc):z.length=n/\∀t∈E,uZ z t∈E':=by
 have h:(decide (n=n) && (decide ((z.map D.int).length=n) && ((z.map D.int).all (cC n) && match intsOf (z.map D.int)with|some z=>F9 E E' z|none=>c_)))=true:=O
 rw[fX,LR,L8 rfl,M4]at h;simp only[h_,decide_eq_true_eq]at h;obtain⟨W,U,S⟩:=h;obtain⟨Y,e,R⟩:=fK U;have Q:∀x∈z,0<=x/\x<n:=fun x T=>by
  have:D.int x∈Y.map D.int:=e ▸ List.mem_map_of_mem T;obtain⟨y,X,e2⟩:=Mp.mp this;exact D.int.inj e2 ▸ R y X
 have P:=wB Q S;refine⟨W,fun t Z=>?_⟩;obtain⟨a,b,rfl,a0,ab,bn⟩:=w.el t Z;have:=P.ok b.toNat (by omega) a.toNat (by omega)
 rw[show((a.toNat:Nat):Int)=a by omega,show((b.toNat:Nat):Int)=b by omega,JT ab,L8 Z]at this
 exact MQ this.symm
theorem A9{l:List Int}{e:TM}{ρ:aQ}(h:e ρ=a_ (.fz (l.map D.int)))(Z:l.length<64):aP (b9 bZ e) ρ=a_ (.fz ((sortI l).map D.int)):=by
 unfold aP;rw[eh h];have:bZ [.fz (l.map D.int)]=bJ ((sortI l).map D.int):=by
  show m4 (l.map D.int)=_;unfold m4;rw[fX];exact if_pos Z
 rw[this];exact cL (j3 _) (by rw[LR,(sortI_perm l).length_eq];unfold lim;omega)
theorem FC(w:WebOk n E)(U:z.length=n):cV [ak n E,tupI z]=a_ (.fz ((E.map (uZ z)).map tupI)):=by
 have Z:=JV (α:=List Int) (l:=E) (mk:=tupI) (f:=tupI∘uZ z) (mi:=iq (aX bA (mV 0) (mK (.int 1)))) (g:=fE 2 (bb (gN 0) (bb (gN 1) dY))) (t:=gm) (m:=gn) (js:=[none,none,ar 1]) (ρ:=[ar (ak n E),ar (tupI z)])
  (fun ρ=>∃x y,ρ=[x,y,ar (tupI z)]) (fun _=>bc) rfl (by have:=w.few;unfold lim;omega) ⟨none,none,rfl⟩
  (fun t ht ρ ⟨x,y,hρ⟩=>by
   subst hρ;obtain⟨a,b,rfl,a0,ab,bn⟩:=w.el t ht;refine⟨[ar (.int a),ar (.int b),ar (tupI z)],rfl,⟨_,_,rfl⟩,rfl,fun _=>?_⟩;have W:aX bA (mV 2) (mV 0) [ar (.int a),ar (.int b),ar (tupI z)]=a_ (.int (z.getD a.toNat 0)):=(cQ (x:=tupI z) (y:=.int a) rfl rfl).trans (fT a0 (by omega))
   have X:aX bA (mV 2) (mV 1) [ar (.int a),ar (.int b),ar (tupI z)]=a_ (.int (z.getD b.toNat 0)):=(cQ (x:=tupI z) (y:=.int b) rfl rfl).trans (fT (by omega) (by omega))
   have Y:aP (bx (ae (aX bA (mV 2) (mV 0)) (ae (aX bA (mV 2) (mV 1)) ao))) [ar (.int a),ar (.int b),ar (tupI z)]=a_ (.fz ([z.getD a.toNat 0,z.getD b.toNat 0].map D.int)):=by
    show jt (ae _ _ _>>=bJ)=_;rw[a7 W (a7 X (es:=ao) rfl),ay];exact cL rfl qW
   refine(eh (A9 Y (by show 2<64;decide))).trans ?_
   rw[JX,qX (by show 2<=lim;exact qW)];rfl)
  (by rw[e9, <-My (f:=uZ z) (g:=tupI)];exact jE _)
 rw[e9, <-My (f:=uZ z) (g:=tupI)]at Z;exact dW (o:=.ret (.fz ((E.map (uZ z)).map tupI))) (fe Z) rfl
theorem rz{d:D}(Y:n<=7)(w:WebOk n E)(X:WebOk n E')(h:Th d):fV [ak n E,ak n E',d]=if rZ n n E E' d=bc then a_ .non else M.raise (.exc "NoMap" []):=by
 have Z:=not_eq (g9 (j7 (e:=av cO (ae (mV 0) (ae (mV 1) (ae (mV 2) ao)))) (ρ:=[ar (ak n E),ar (ak n E'),ar d]) ((iW (x:=ak n E) (y:=ak n E') (z:=d) rfl rfl rfl).trans (Fz Y w Y X h))));by_cases hm:rZ n n E E' d=bc
 ·rw[if_pos hm];exact jl ((bg Z).trans (if_neg (by rw[hm];decide))) rfl
 ·rw[if_neg hm];exact dM ((bg Z).trans ((if_pos (by simpa using hm)).trans rfl))
theorem yp{d:D}(Z:n<=7)(w:WebOk n E)(X:WebOk n E')(h:Th d)(Y:rZ n n E E' d=c_):cw [ak n E,ak n E',d]=M.raise (.exc "NoMap" []):=
 dM (gO (iU (DV ((iW (x:=ak n E) (y:=ak n E') (z:=d) rfl rfl rfl).trans (by rw[rz Z w X h,if_neg (by rw[Y];decide)])))))
theorem Ba(S:n<=7)(w:WebOk n E)(Q:WebOk n E')(h:Th (tupI z))(X:rZ n n E E' (tupI z)=bc):cw [ak n E,ak n E',tupI z]=a_ (tupI (lC E E' z)):=by
 obtain⟨T,Z⟩:=DO w X;have W:nF (aP (av fV (ae (mV 0) (ae (mV 1) (ae (mV 2) ao))))) [ar (ak n E),ar (ak n E'),ar (tupI z)]=a_ (.nx [ar (ak n E),ar (ak n E'),ar (tupI z)]):=lM (j7 ((iW (x:=ak n E) (y:=ak n E') (z:=tupI z) rfl rfl rfl).trans (by rw[rz S w Q h,if_pos X])))
 have R:=j7 (e:=av cV (ae (mV 0) (ae (mV 2) ao))) (ρ:=[ar (ak n E),ar (ak n E'),ar (tupI z)]) ((call2 (x:=ak n E) (y:=tupI z) rfl rfl).trans (FC w T));have hi:iq (aP (av cV (ae (mV 0) (ae (mV 2) ao)))) [ar (ak n E),ar (ak n E'),ar (tupI z)]=a_ ⟨(E.map (uZ z)).map tupI,.none⟩:=by
  unfold iq;rw[R,ay];rfl
 have hf:=w.few;have e:((E.map (uZ z)).filter fun _=>bc).map (fun s=>D.int (E'.idxOf s))=(lC E E' z).map D.int:=by
  rw[e9];unfold lC;rw[My,My];rfl
 have Y:=JW (α:=List Int) (l:=E.map (uZ z)) (mk:=tupI) (f:=fun s=>.int (E'.idxOf s)) (g:=gN 0) (t:=jU) (m:=jV) (js:=[none,ar 1]) (ρ:=[ar (ak n E),ar (ak n E'),ar (tupI z)])
  (fun ρ=>∃x,ρ=[x,ar (ak n E')]) (fun _=>bc) hi (by rw[LR];unfold lim;omega) ⟨none,rfl⟩
  (fun s hs ρ ⟨x,hρ⟩=>by
   subst hρ;obtain⟨t,U,rfl⟩:=Mp.mp hs;refine⟨[ar (tupI (uZ z t)),ar (ak n E')],rfl,⟨_,rfl⟩,rfl,fun _=>?_⟩;exact(DN (xs:=E'.map tupI) (y:=tupI (uZ z t)) rfl rfl).trans (tI (Z t U)))
  (by rw[e];exact j3 _)
 rw[e]at Y;refine jl (o:=.ret (tupI (lC E E' z))) ((aZ W).trans (fe ((eh Y).trans (qX ?_)))) rfl;rw[LR];unfold lC;rw[LR];unfold lim;omega
end
theorem JY{n n':Nat}{E E':List (List Int)}{z:List Int}(w:WebOk n E)(R:z.length=n)(Y:∀t∈E,uZ z t∈E'):jt (dJ [ak n E,ak n' E',tupI z])=a_ (tupI (lC E E' z)):=by
 refine JH (yf _) fun S=>?_;have hf:=w.few;obtain⟨ρ',⟨x4,x5,x6,rfl⟩,Z⟩:=forA (α:=List Int) (mk:=tupI) (f:=fun t=>[D.int (E'.idxOf (uZ z t))]) (g:=fE 2 (bb (gN 4) (bb (gN 5) dY))) (b:=gq) (its:=E.map tupI) (S:=S) 1
  (fun ρ=>∃x4 x5 x6,ρ=[ar (ak n E),ar (ak n' E'),ar (tupI z),ar (.lst S.length),x4,x5,x6]) E [] [ar (ak n E),ar (ak n' E'),ar (tupI z),ar (.lst S.length),none,none,none] ⟨none,none,none,rfl⟩ (by show 0+E.length*1<=1000;omega)
  (fun t X=>⟨LU _,fun ρ xs ⟨x4,x5,x6,hρ⟩ hl=>by
   subst hρ;obtain⟨a,b,rfl,a0,ab,bn⟩:=w.el t X;refine⟨[ar (ak n E),ar (ak n' E'),ar (tupI z),ar (.lst S.length),ar (.int a),ar (.int b),x6],_,rfl,⟨ar (.int a),ar (.int b),ar (tupI (uZ z [a,b])),rfl⟩,?_⟩;have U:aX bA (mV 2) (mV 4) [ar (ak n E),ar (ak n' E'),ar (tupI z),ar (.lst S.length),ar (.int a),ar (.int b),x6]=a_ (.int (z.getD a.toNat 0)):=(cQ (x:=tupI z) (y:=.int a) rfl rfl).trans (fT a0 (by omega))
   have W:aX bA (mV 2) (mV 5) [ar (ak n E),ar (ak n' E'),ar (tupI z),ar (.lst S.length),ar (.int a),ar (.int b),x6]=a_ (.int (z.getD b.toNat 0)):=(cQ (x:=tupI z) (y:=.int b) rfl rfl).trans (fT (by omega) (by omega))
   have T:AU kH (aX bA (mV 1) (mK (.int 1))) (mV 6) [ar (ak n E),ar (ak n' E'),ar (tupI z),ar (.lst S.length),ar (.int a),ar (.int b),ar (tupI (uZ z [a,b]))]=a_ (.int (E'.idxOf (uZ z [a,b]))):=(DN (xs:=E'.map tupI) (y:=tupI (uZ z [a,b])) rfl rfl).trans (tI (Y _ X));exact(Mz (aZ (n4 (mm U W))) _).trans (nq (x:=.non) ((lO (x:=.lst S.length) rfl rfl (Mz T _)).trans (wC hl)))⟩)
 have e:E.flatMap (fun t=>[D.int (E'.idxOf (uZ z t))])=(lC E E' z).map D.int:=by
  unfold lC;rw[My,List.map_eq_flatMap];rfl
 rw[e]at Z;refine⟨_,S++[[]++(lC E E' z).map D.int],ff (o:=.ret (tupI (lC E E' z))) ?_ rfl,rfl,_,rfl⟩;refine(aL (bB (jX (ys:=[]) (S1:=S) rfl (Mg _)))).trans ((aL (mn (its:=E.map tupI) rfl Z)).trans (fW ((jf (x:=.lst S.length) rfl).trans (wD ?_))));show((lC E E' z).map D.int).length<=lim;rw[LR];unfold lC;rw[LR];unfold lim;omega
def Tp(m:Nat)(d:D):Prop:=∃us,d= .tup us/\us.length<=m/\∀x∈us,F7 x=bc
theorem Tp.cl{m:Nat}{d:D}(h:Tp m d):fU 0 d=true:=by
 obtain⟨us,rfl,_,h⟩:=h;exact Ga h
theorem Tp.th{m:Nat}{d:D}(h:Tp m d)(Z:m<=50):Th d:=by
 obtain⟨us,rfl,l,h⟩:=h;exact .tup (by omega) h
section
variable {e e1 e2:TM}{ρ:aQ}{m a b:Nat}{d:D}
theorem rA{lo hi:aQ->M (Option Int)}{l h:Option Int}(T:e ρ=a_ d)(U:Tp m d)(Z:lo ρ=a_ l)(Y:hi ρ=a_ h)(Q:m<=50):∃d',aP (nE e lo hi) ρ=a_ d'/\Tp m d':=by
 obtain⟨us,rfl,R,S⟩:=U;have X:(S3.cutD us l h).Sublist us:=by
  unfold S3.cutD;exact(Pq _ _).trans (List.drop_sublist _ _)
 have:=X.length_le;refine⟨.tup (S3.cutD us l h),j7 ?_,_,rfl,by omega,fun x W=>S x (X.subset W)⟩
 show(e ρ>>=fun x=>lo ρ>>=fun lo=>hi ρ>>=fun hi=>uj x lo hi)=_;rw[T,ay,Z,ay,Y,ay];show bU (S3.cutD us l h)=_;unfold bU;exact if_pos (by unfold lim;omega)
theorem rB{Z Y:D}(R:e1 ρ=a_ Z)(Q:Tp a Z)(X:e2 ρ=a_ Y)(W:Tp b Y)(O:a+b<=50):∃d',aP (aX bK e1 e2) ρ=a_ d'/\Tp (a+b) d':=by
 obtain⟨us,rfl,N,U⟩:=Q;obtain⟨vs,rfl,P,T⟩:=W;refine⟨.tup (us++vs),j7 ((cQ R X).trans ?_),_,rfl,by rw[LW];omega,fun x S=>(M6.mp S).elim (U x) (T x)⟩
 show bU (us++vs)=_;unfold bU;exact if_pos (by rw[LW];unfold lim;omega)
theorem Im(W:e ρ=a_ d)(X:Tp m d)(T:m<=50):∃d',aP (Hv e) ρ=a_ d'/\Tp m d':=by
 obtain⟨us,rfl,Z,U⟩:=X;refine⟨.tup us.reverse,j7 ?_,_,rfl,by rw[O4];exact Z,fun x Y=>U x (List.mem_reverse.mp Y)⟩
 show(e ρ>>=Ha)=_;rw[W,ay];show bU us.reverse=_;unfold bU;exact if_pos (by rw[O4];unfold lim;omega)
theorem Io(X:e ρ=a_ d)(Y:F7 d=bc):dZ (ae e ao) ρ=a_ (.tup [d])/\Tp 1 (.tup [d]):=by
 refine⟨?_,_,rfl,LU _,fun x Z=>by rw[NV.mp Z];exact Y⟩
 show(ae _ _ _>>=bU)=_;rw[a7 X (es:=ao) rfl,ay];unfold bU;exact if_pos (show 1<=lim by unfold lim;omega)
theorem rC{i:Int}(h:e ρ=a_ (.int i)):oS e ρ=a_ (ar i):=by unfold oS;rw[h];rfl
end
theorem u6{z:List Int}{m:Nat}(h:z.length<=m):Tp m (tupI z):=⟨z.map D.int,rfl,by rw[LR];exact h,FA z⟩
theorem Gb{ds:List D}{i:Int}(Z:0<=i)(Y:i<ds.length):∃d∈ds,bA (.fz ds) (.int i)=a_ d:=by
 obtain⟨d,e,hd⟩:=Dn Z Y;refine⟨d,hd,?_⟩;show(match kd ds i with|some d=>(a_ d:M D)|none=>M.fail)=_
 rw[e]
theorem Lj{us:List D}(h:∀x∈us,Th x/\fU 0 x=bc):cG 0 us=true:=by
 induction us with
 |nil=>rfl
 |cons x us ih=>
  unfold cG;rw[(h x (.head _)).2,ih fun y Z=>h y (.tail _ Z)];rfl
def zT:TM:=aP (bx (aN (mV 3) (aN (b9 cz (mV 1)) (aN (mK (.int (-1))) (aN (mK (.bl bc)) (aN (mK .non) (aN (mK (.str "0")) (aN (mK (.tup [.int 0])) (aN (mK (.bl c_)) (ao))))))))))
def u7:cJ:=il (AH (dG lB (mV 2) (b9 cz (mV 1))) (dG lB (mV 3) (b9 cz (mV 1)))) (kB (dZ (ae (aX bA (mV 1) (mV 3)) (ae (aX bA (mV 1) (mV 2)) (ao)))) (fE 2 (bb (DU (mV 5) (mV 2)) (bb (DU (mV 5) (mV 3)) (dY))))) (cK)
def zU:TM:=aP (bx (aN (b9 cY (mV 5)) (aN (b9 cY (mV 5)) (aN (aP (aX bK (aP (aX bK (aP (nE (mV 1) (oN) (oS (mV 2)))) (dZ (ae (mV 4) (ao))))) (aP (nE (mV 1) (oS (aX bK (mV 2) (mK (.int 1)))) (oN))))) (aN (aP (aX bK (aP (aX bK (aP (nE (mV 1) (oN) (oS (mV 2)))) (dZ (ae (mV 4) (ao))))) (aP (nE (mV 1) (oS (mV 2)) (oN))))) (ao))))))
def pQ:TM:=aP (bx (aN (aP (aX bK (aP (nE (mV 1) (oN) (oS (mV 2)))) (aP (nE (mV 1) (oS (aX bK (mV 2) (mK (.int 1)))) (oN))))) (aN (aP (b9 mQ (mV 1))) (aN (aP (Hv (mV 1))) (aN (mK .non) (aN (mK .emp) (aN (mK (.int 0)) (ao))))))))
theorem FD:fR=aH (uD 2 3 (ae (aP (av aw (ae (mV 0) (ae (aX bK (b9 cz (mV 1)) (mK (.int 1))) (ao))))) (ae (aP (av aw (ae (mV 0) (ae (aX bK (b9 cz (mV 1)) (mK (.int 1))) (ao))))) (ao)))) (aH (bH 4 (aX bA zT (aP (av aw (ae (mV 0) (ae (mK (.int 8)) (ao))))))) (aH (bH 5 (b9 mQ (mV 1))) (aH u7 (aH (bH 6 zU) (aH (bH 6 (aP (aX bK (mV 6) pQ))) (bp (aX bA (mV 6) (aP (av aw (ae (mV 0) (ae (mK (.int 10)) (ao)))))))))))):=rfl
section
variable {k:Nat}{z us:List Int}{i j:Int}{odd:D}{x6:Option D}
abbrev ik(k:Nat)(z:List Int)(i j:Int)(odd:D)(r:List (Option D)):aQ:=ar (.lst k)::ar (tupI z)::ar (.int i)::ar (.int j)::ar odd::r
theorem zV{r:List (Option D)}:b9 cz (mV 1) (ar (.lst k)::ar (tupI z)::r)=a_ (.int z.length):=by
 refine(eh (x:=tupI z) rfl).trans ?_;show a_ (D.int (z.map D.int).length)=_;rw[LR]
theorem JZ{r:List (Option D)}:zT (ar (.lst k)::ar (tupI z)::ar (.int i)::ar (.int j)::r)=a_ (.fz [.int j,.int z.length,.int (-1),.bl bc,.non,.str "0",.tup [.int 0],.bl c_]):=by
 exact things (ρ:=ar (.lst k)::ar (tupI z)::ar (.int i)::ar (.int j)::r) (a7 (e:=mV 3) (x:=.int j) rfl (a7 zV (a7 (e:=mK (.int (-1))) (x:=.int (-1)) rfl (a7 (e:=mK (.bl bc)) (x:=.bl bc) rfl (a7 (e:=mK .non) (x:=.non) rfl (a7 (e:=mK (.str "0")) (x:=.str "0") rfl (a7 (e:=mK (.tup [.int 0])) (x:=.tup [.int 0]) rfl (a7 (e:=mK (.bl c_)) (x:=.bl c_) rfl (es:=ao) rfl)))))))) rfl (by show 8<=50;decide)
theorem J0{S:aF}(Q:z.length<=7)(Y:0<=i)(X:0<=j):∃us:List Int,us.length=z.length/\u7 (ik k z i j odd [ar (.lst S.length),x6]) (S++[z.map D.int])=ar (.ok (.nx (ik k z i j odd [ar (.lst S.length),x6])),S++[us.map D.int]):=by
 have U:dG lB (mV 2) (b9 cz (mV 1)) (ik k z i j odd [ar (.lst S.length),x6])=a_ (decide (i<z.length)):=cm (x:=.int i) rfl zV rfl;have W:dG lB (mV 3) (b9 cz (mV 1)) (ik k z i j odd [ar (.lst S.length),x6])=a_ (decide (j<z.length)):=cm (x:=.int j) rfl zV rfl;have Z:AH (dG lB (mV 2) (b9 cz (mV 1))) (dG lB (mV 3) (b9 cz (mV 1))) (ik k z i j odd [ar (.lst S.length),x6])=a_ (decide (i<z.length) && decide (j<z.length)):=by
  show(dG lB _ _ _>>=_)=_;rw[U,ay];by_cases h:i<z.length
  ·rw[L8 h,if_pos rfl,W,M4]
  ·rw[Mj h,if_neg (by decide),M0]
 unfold u7;by_cases h:i<z.length/\j<z.length
 ·rw[L8 h.1,L8 h.2]at Z;refine⟨(z.set i.toNat (z.getD j.toNat 0)).set j.toNat (z.getD i.toNat 0),by rw[M9,M9],(Mz ((bg Z).trans (if_pos rfl)) _).trans ?_⟩
  have R:aX bA (mV 1) (mV 3) (ik k z i j odd [ar (.lst S.length),x6])=a_ (.int (z.getD j.toNat 0)):=(cQ (x:=tupI z) (y:=.int j) rfl rfl).trans (fT X h.2);have T:aX bA (mV 1) (mV 2) (ik k z i j odd [ar (.lst S.length),x6])=a_ (.int (z.getD i.toNat 0)):=(cQ (x:=tupI z) (y:=.int i) rfl rfl).trans (fT Y h.1);refine yd (gQ (Mz R _) (Mz T _)) ?_;have s1:=wF (S:=S) (xs:=z.map D.int) (v:=.int (z.getD j.toNat 0)) Y (by rw[LR];exact h.1) (by rw[LR];omega)
  have s2:=wF (S:=S) (xs:=(z.map D.int).set i.toNat (.int (z.getD j.toNat 0))) (v:=.int (z.getD i.toNat 0)) X (by rw[M9,LR];exact h.2) (by rw[M9,LR];omega)
  rw[List.map_set,List.map_set];show(DU (mV 5) (mV 2) (.int (z.getD j.toNat 0)) (ik k z i j odd [ar (.lst S.length),x6])>>=_) _=_;rw[aO (a:=ik k z i j odd [ar (.lst S.length),x6]) (S1:=S++[(z.map D.int).set i.toNat (.int (z.getD j.toNat 0))])]
  ·show(DU (mV 5) (mV 3) (.int (z.getD i.toNat 0)) (ik k z i j odd [ar (.lst S.length),x6])>>=_) _=_;rw[aO (a:=ik k z i j odd [ar (.lst S.length),x6]) (S1:=S++[((z.map D.int).set i.toNat (.int (z.getD j.toNat 0))).set j.toNat (.int (z.getD i.toNat 0))])]
   ·rfl
   ·show(gY (.lst S.length) (.int j) _>>=_) _=_;rw[aO s2];rfl
  ·show(gY (.lst S.length) (.int i) _>>=_) _=_;rw[aO s1];rfl
 ·refine⟨z,rfl,(Mz ((bg Z).trans (if_neg ?_)) _).trans rfl⟩;rw[MH,Mu,Mu];exact h
theorem J1{S:aF}(H:z.length<=7)(E:us.length<=7)(O:F7 odd=bc):∃vs,zU (ik k z i j odd [ar (.lst S.length),x6]) (S++[us.map D.int])=ar (.ok (.fz vs),S++[us.map D.int])/\vs.length=4/\∀x∈vs,Th x/\fU 0 x=true:=by
 have t0:=u6 (m:=7) H;have Y:=u6 (m:=7) E;obtain⟨w,N,t1⟩:=rA (e:=mV 1) (ρ:=ik k z i j odd [ar (.lst S.length),x6]) (lo:=oN) (hi:=oS (mV 2)) rfl t0 rfl (rC (i:=i) rfl) (by decide)
 obtain⟨A,P,J⟩:=rA (e:=mV 1) (ρ:=ik k z i j odd [ar (.lst S.length),x6]) (lo:=oS (aX bK (mV 2) (mK (.int 1)))) (hi:=oN) rfl t0 (rC (i:=i+1) rfl) rfl (by decide)
 obtain⟨v,C,t3⟩:=rA (e:=mV 1) (ρ:=ik k z i j odd [ar (.lst S.length),x6]) (lo:=oS (mV 2)) (hi:=oN) rfl t0 (rC (i:=i) rfl) rfl (by decide)
 obtain⟨K,G⟩:=Io (e:=mV 4) (ρ:=ik k z i j odd [ar (.lst S.length),x6]) rfl O;obtain⟨y,T,R⟩:=rB N t1 K G (by decide)
 obtain⟨I,B,U⟩:=rB T R P J (by decide)
 obtain⟨F,L,Q⟩:=rB T R C t3 (by decide)
 have X:b9 cY (mV 5) (ik k z i j odd [ar (.lst S.length),x6]) (S++[us.map D.int])=ar (.ok (tupI us),S++[us.map D.int]):=(jf (x:=.lst S.length) rfl).trans (wD (by rw[LR];unfold lim;omega))
 have Z:∀x∈[tupI us,tupI us,I,F],Th x/\fU 0 x=true:=fun x W=>by
  simp only[f_,fb,or_false]at W;rcases W with rfl|rfl|rfl|rfl
  ·exact⟨Y.th (by decide),Y.cl⟩
  ·exact⟨Y.th (by decide),Y.cl⟩
  ·exact⟨U.th (by decide),U.cl⟩
  ·exact⟨Q.th (by decide),Q.cl⟩
 exact⟨_,A8 (bP X (bP X (bP (Mz B _) (bP (Mz L _) rfl)))) (Lj Z) (by show 4<=50;decide),rfl,Z⟩
theorem J2{r:List (Option D)}(N:z.length<=7):∃us,pQ (ik k z i j odd r)=a_ (.fz us)/\us.length=6/\∀x∈us,Th x/\fU 0 x=true:=by
 have t0:=u6 (m:=7) N;obtain⟨J,R,t1⟩:=rA (e:=mV 1) (ρ:=ik k z i j odd r) (lo:=oN) (hi:=oS (mV 2)) rfl t0 rfl (rC (i:=i) rfl) (by decide)
 obtain⟨K,U,O⟩:=rA (e:=mV 1) (ρ:=ik k z i j odd r) (lo:=oS (aX bK (mV 2) (mK (.int 1)))) (hi:=oN) rfl t0 (rC (i:=i+1) rfl) rfl (by decide)
 obtain⟨S,P,X⟩:=rB R t1 U O (by decide)
 have T:aP (b9 mQ (mV 1)) (ik k z i j odd r)=a_ (.fz (z.map D.int)):=by
  unfold aP;rw[eh (x:=tupI z) rfl];exact cL (j3 _) (by rw[LR];unfold lim;omega)
 obtain⟨L,Q,W⟩:=Im (e:=mV 1) (ρ:=ik k z i j odd r) rfl t0 (by decide)
 have Z:∀x∈[S,.fz (z.map D.int),L,.non,.emp,.int 0],Th x/\fU 0 x=true:=fun x Y=>by
  simp only[f_,fb,or_false]at Y;rcases Y with rfl|rfl|rfl|rfl|rfl|rfl
  ·exact⟨X.th (by decide),X.cl⟩
  ·exact⟨.oth rfl rfl,j3 z⟩
  ·exact⟨W.th (by decide),W.cl⟩
  ·exact⟨.oth rfl rfl,rfl⟩
  ·exact⟨.oth rfl rfl,rfl⟩
  ·exact⟨.oth rfl rfl,rfl⟩
 exact⟨_,things (a7 P (a7 T (a7 Q (a7 (e:=mK .non) (x:=.non) rfl (a7 (e:=mK .emp) (x:=.emp) rfl (a7 (e:=mK (.int 0)) (x:=.int 0) rfl (es:=ao) rfl)))))) (Lj Z) (by show 6<=50;decide),rfl,Z⟩
theorem FE{S:aF}(hs:ez S k)(W:z.length<=7):∃d S1,jt (c8 [.lst k,tupI z]) S=ar (.ok d,S1)/\Th d/\fU 0 d=bc/\Kp k S S1/\S1.length=S.length:=by
 have hlen:aX bK (b9 cz (mV 1)) (mK (.int 1)) [ar (.lst k),ar (tupI z),none,none,none,none,none]=a_ (.int ((z.length:Int)+1)):=(cQ (x:=.int z.length) (y:=.int 1) zV rfl).trans rfl;obtain⟨i,n,e1,A,g,k1,f⟩:=jg (e1:=mV 0) (ρ:=[ar (.lst k),ar (tupI z),none,none,none,none,none]) hs rfl hlen (by omega) (by omega)
 obtain⟨j,N,e2,L,l,k2,h⟩:=jg (e1:=mV 0) (ρ:=[ar (.lst k),ar (tupI z),none,none,none,none,none]) k1.st rfl hlen (by omega) (by omega)
 obtain⟨a,Z,e3,a0,a1,k3,p⟩:=jg (e1:=mV 0) (e2:=mK (.int 8)) (ρ:=[ar (.lst k),ar (tupI z),ar (.int i),ar (.int j),none,none,none]) (m:=8) k2.st rfl rfl (by decide) (by decide)
 obtain⟨odd,U,q⟩:=Gb (ds:=[.int j,.int z.length,.int (-1),.bl bc,.non,.str "0",.tup [.int 0],.bl c_]) a0 a1;have X:F7 odd=true:=by
  simp only[f_,fb,or_false]at U;rcases U with rfl|rfl|rfl|rfl|rfl|rfl|rfl|rfl<;>first|rfl|decide+kernel
 obtain⟨us,t,B⟩:=J0 (k:=k) (z:=z) (i:=i) (j:=j) (odd:=odd) (x6:=none) (S:=Z) W A L;obtain⟨vs,E,lv,C⟩:=J1 (k:=k) (z:=z) (us:=us) (i:=i) (j:=j) (odd:=odd) (x6:=none) (S:=Z) W (by omega) X
 obtain⟨ws,R,lw,hw⟩:=J2 (k:=k) (z:=z) (i:=i) (j:=j) (odd:=odd) (r:=[ar (.lst Z.length),ar (.fz vs)]) W;have Y:∀x∈vs++ws,Th x/\fU 0 x=true:=fun x F=>(M6.mp F).elim (C x) (hw x);have I:aP (aX bK (mV 6) pQ) (ik k z i j odd [ar (.lst Z.length),ar (.fz vs)])=a_ (.fz (vs++ws)):=by
  show jt (aX bK (mV 6) pQ _)=_;rw[cQ (x:=.fz vs) rfl R];exact cL (Lj Y) (by rw[LW];unfold lim;omega)
 obtain⟨c,T,K,O,u,H,e⟩:=jg (e1:=mV 0) (e2:=mK (.int 10)) (ρ:=ik k z i j odd [ar (.lst Z.length),ar (.fz (vs++ws))]) (m:=10) (k3.st.grow (G:=[us.map D.int])) rfl rfl (by decide) (by decide)
 obtain⟨d,hd,J⟩:=Gb (ds:=vs++ws) O (by rw[LW,lv,lw];exact u)
 obtain⟨P,cd⟩:=Y d hd;have v:=(((k1.trans k2).trans k3).trans (.grow k3.st _)).trans H;have s:b9 mQ (mV 1) (ik k z i j odd [none,none]) Z=ar (.ok (.lst Z.length),Z++[z.map D.int]):=(jf (x:=tupI z) rfl).trans (dj (by rw[LR];unfold lim;omega))
 have hm:fR [ar (.lst k),ar (tupI z),none,none,none,none,none] S=ar (.ok (.ret d),T):=by
  rw[FD];exact(aL (yh (bP e1 (bP e2 rfl)))).trans ((aL (bB ((hU (Mz JZ N) e3).trans (Mz q Z)))).trans ((aL (bB s)).trans ((aL B).trans ((aL (bB E)).trans ((Mz (aZ (n4 I)) _).trans (fW ((hU (x:=.fz (vs++ws)) rfl K).trans (Mz J T))))))))
 obtain⟨S1,w,Q⟩:=lN (c:=c8 [.lst k,tupI z]) (d:=d) hs (ff (o:=.ret d) hm rfl) v cd;exact⟨d,S1,w,P,cd,Q⟩
end
theorem nz{js:List Nat}{ρ:aQ}{ds es:List D}{c:M D}{x:D}{ms:aQ->M (List D)}{m:TM}{R:M D->List D->M D}(Z:xW js ρ=ar ds)(X:ms ρ=a_ es)(W:m (ds.map ar)=c)(Y:R c es=a_ x):aP (qH js ms m R) ρ=a_ x:=by
 refine j7 ?_;show qH js ms m R ρ=_;unfold qH;rw[Z];show(ms ρ>>=fun es=>R (m (ds.map ar)) es)=_;rw[X,W,ay,Y]
theorem FF:aW (M.raise (.exc "NoMap" [])) []=a_ (.fz [.int 12]):=oh (by decide) (by rfl)
theorem zW{d e x:D}(h:bQ [d,e]=M.raise x):aP (av cw (ae (mV 0) (ae (mV 1) (ae (mK .non) ao)))) [ar d,ar e]=M.raise x:=by
 have X:=DF (y:=.non) h;have Z:fV [d,e,.non]=M.raise x:=dM (by
  show(dq (bV (aP (av cO _))) _>>=_)=_;have:aP (av cO (ae (mV 0) (ae (mV 1) (ae (mV 2) ao)))) [ar d,ar e,ar .non]=M.raise x:=DV ((iW (x:=d) (y:=e) (z:=.non) rfl rfl rfl).trans X);show((((aP (av cO (ae (mV 0) (ae (mV 1) (ae (mV 2) ao)))) [ar d,ar e,ar .non])>>=lE)>>=fun c=>a_ (!c))>>=_)=_;rw[this];rfl)
 have Y:cw [d,e,.non]=M.raise x:=dM (gO (iU (DV ((iW (x:=d) (y:=e) (z:=.non) rfl rfl rfl).trans Z))));exact DV ((iW (x:=d) (y:=e) (z:=.non) rfl rfl rfl).trans Y)
theorem w0{m:Nat}:WebOk m []:=⟨(fun t Z=>by cases Z),.nil,Mg _⟩
theorem nb{e:TM}{ρ:aQ}(h:e ρ=a_ (.bl bc)):dq (bV e) ρ=a_ false:=not_eq (g9 h)
theorem wI{t:kb}{m:cJ}{ρ:aQ}(h:t ρ=a_ c_):il t m cK ρ=a_ (.nx ρ):=(bg h).trans (if_neg (by decide))
theorem wJ{S:aF}{k n:Nat}{E:List (List Int)}(hs:ez S k)(u:n<=7)(w:WebOk n E):∃S1,jt (bt [.lst k,ak n E]) S=ar (.ok (.bl bc),S1)/\Kp k S S1/\S1.length=S.length:=by
 obtain⟨d,U,e1,T,Q,k1,z⟩:=Ig hs;obtain⟨i,W,e2,v,A,k2,B⟩:=jg (e1:=mV 0) (e2:=mK (.int 3)) (ρ:=[ar (.lst k),ar (ak n E),ar d,none,none]) (m:=3) k1.st rfl rfl (by decide) (by decide)
 obtain⟨j,X,e3,F,C,k3,G⟩:=jg (e1:=mV 0) (e2:=mK (.int 4)) (ρ:=[ar (.lst k),ar (ak n E),ar d,none,none]) (m:=4) k2.st rfl rfl (by decide) (by decide)
 obtain⟨a,O⟩:∃a:Nat,8+i=(a:Int):=⟨(8+i).toNat,by omega⟩
 obtain⟨b,L⟩:∃b:Nat,11+j=(b:Int):=⟨(11+j).toNat,by omega⟩
 have J:dZ (ae (aX bK (mK (.int 8)) (aP (av aw (ae (mV 0) (ae (mK (.int 3)) ao))))) (ae (mK (.tup [])) ao)) [ar (.lst k),ar (ak n E),ar d,none,none] U=ar (.ok (ak a []),W):=by
  refine gQ (y:=.tup []) (S1:=W) ((hU (x:=.int 8) (S1:=U) rfl e2).trans ?_) rfl;rw[<-O];rfl
 have H:dZ (ae (aX bK (mK (.int 11)) (aP (av aw (ae (mV 0) (ae (mK (.int 4)) ao))))) (ae (mK (.tup [])) ao)) [ar (.lst k),ar (ak n E),ar d,none,none] W=ar (.ok (ak b []),X):=by
  refine gQ (y:=.tup []) (S1:=X) ((hU (x:=.int 11) (S1:=W) rfl e3).trans ?_) rfl;rw[<-L];rfl
 have Y:a<=14:=by omega
 have Z:b<=14:=by omega
 have I:=nz (js:=[2,3]) (ρ:=[ar (.lst k),ar (ak n E),ar d,ar (ak a []),ar (ak b [])]) (ds:=[d,ak a []]) (ms:=ao) (m:=du) (R:=aW) rfl rfl (zW (Fv T Q)) zH;have K:=nz (js:=[3,2]) (ρ:=[ar (.lst k),ar (ak n E),ar d,ar (ak a []),ar (ak b [])]) (ds:=[ak a [],d]) (ms:=ao) (m:=dv) (R:=aW) rfl rfl (zW (Fw Y w0 T Q)) zH;have N:=nz (js:=[3,4]) (ρ:=[ar (.lst k),ar (ak n E),ar d,ar (ak a []),ar (ak b [])]) (ds:=[ak a [],ak b []]) (m:=dw) (R:=bN) rfl (a7 (e:=aX bA (mV 3) (mK (.int 0))) (x:=.int a) rfl (a7 (e:=mK (.int 7)) (x:=.int 7) rfl (es:=ao) rfl)) (zW ((mapped Y w0 Z w0).trans (if_pos (by omega)))) zJ
 have P:=nz (js:=[1,4]) (ρ:=[ar (.lst k),ar (ak n E),ar d,ar (ak a []),ar (ak b [])]) (ds:=[ak n E,ak b []]) (m:=dy) (R:=bN) rfl (a7 (e:=aX bA (mV 4) (mK (.int 0))) (x:=.int b) rfl (a7 (e:=mK (.int 7)) (x:=.int 7) rfl (es:=ao) rfl)) (zW ((mapped (by omega) w Z w0).trans ((if_neg (by omega)).trans (if_pos (by omega))))) zJ
 have hm:eJ [ar (.lst k),ar (ak n E),none,none,none] S=ar (.ok (.ret (.bl bc)),X):=by
  refine(aL (S1:=U) (bB (x:=d) ?_)).trans ((aL (yh (bP J (bP H rfl)))).trans (Mz ((aZ (wI (cm I uU Fg))).trans ((aZ (wI (cm K uU Fg))).trans ((aZ (wI (nb N))).trans (fe P)))) X));show jt (av _ _ _) S=_;rw[g0 (x:=.lst k) rfl];exact e1
 exact lN hs (ff (o:=.ret (.bl bc)) hm rfl) ((k1.trans k2).trans k3) rfl
section
variable {a0 a1 a2 a4 a6:Option D}{n:Nat}{E E':List (List Int)}{d:D}
theorem J3(Y:n<=7)(w:WebOk n E)(X:WebOk n E')(h:Th d):nk [a0,a1,a2,ar (ak n E),a4,ar (ak n E'),a6,ar d]=a_ (.nx [a0,a1,a2,ar (ak n E),a4,ar (ak n E'),a6,ar d]):=by
 have S:=not_eq (g9 (j7 (e:=av eE (ae (mV 3) (ae (mV 5) (ae (mV 7) ao)))) (ρ:=[a0,a1,a2,ar (ak n E),a4,ar (ak n E'),a6,ar d]) ((iW (x:=ak n E) (y:=ak n E') (z:=d) rfl rfl rfl).trans (Il Y h))));refine(bg S).trans ?_;cases hm:rZ n n E E' d with
 |false=>
  rw[if_pos (by rfl)]
  have r:=nz (js:=[3,5,7]) (ρ:=[a0,a1,a2,ar (ak n E),a4,ar (ak n E'),a6,ar d]) (ds:=[ak n E,ak n E',d]) (ms:=ao) (m:=qV) (R:=aW) rfl rfl (DV ((iW (x:=ak n E) (y:=ak n E') (z:=d) rfl rfl rfl).trans (yp Y w X h hm))) FF;exact wI (cm r uU Fg)
 | true=>
  rw[if_neg (by decide)]
  obtain⟨z,rfl⟩:∃z:List Int,d=tupI z:=by
   cases d with
   |tup ds=>
    have hm:(decide (n=n) && (decide (ds.length=n) && (ds.all (cC n) && match intsOf ds with|some z=>F9 E E' z|none=>c_)))=true:=hm
    simp only[h_]at hm;obtain⟨z,rfl,_⟩:=fK hm.2.2.1;exact⟨z,rfl⟩
   |_=>cases hm
  obtain⟨Q,Z⟩:=DO w hm;have T:=j7 (e:=av cw (ae (mV 3) (ae (mV 5) (ae (mV 7) ao)))) (ρ:=[a0,a1,a2,ar (ak n E),a4,ar (ak n E'),a6,ar (tupI z)]) ((iW (x:=ak n E) (y:=ak n E') (z:=tupI z) rfl rfl rfl).trans (Ba Y w X h hm));have W:aP (av dJ (ae (mV 3) (ae (mV 5) (ae (mV 7) ao)))) [a0,a1,a2,ar (ak n E),a4,ar (ak n E'),a6,ar (tupI z)]=a_ (tupI (lC E E' z)):=by
   unfold aP;rw[iW (x:=ak n E) (y:=ak n E') (z:=tupI z) rfl rfl rfl];exact JY w Q Z
  have P:di [tupI (lC E E' z),tupI (lC E E' z)]=a_ (.bl bc):=Dp (k:=5) (by have:=w.few;rw[LR];unfold lC;rw[LR];omega) fun x U=>by
   obtain⟨i,_,rfl⟩:=Mp.mp U;exact same_int
  exact wI (nb (j7 ((call2 T W).trans P)))
theorem zX{its:List D}{S:aF}{p:Nat}(Y:n<=7)(w:WebOk n E)(X:WebOk n E')(Z:S[p]? =ar its):∀(ts:List D) (x:Option D),(∀d∈ts,Th d)->∃y,eG ⟨its,.some p⟩ (gN 7) nk ts [a0,a1,a2,ar (ak n E),a4,ar (ak n E'),a6,x] S=ar (.ok (.nx [a0,a1,a2,ar (ak n E),a4,ar (ak n E'),a6,y]),S)
 |[],x,_=>⟨x,Ds Z⟩
 |d::ts,x,h=>by
  obtain⟨y,W⟩:=zX Y w X Z ts (ar d) fun e he=>h e (.tail _ he);exact⟨y,(Fh Z rfl (Mz (J3 Y w X (h d (.head _))) S)).trans W⟩
end
theorem Dr.alls{P:D->Prop}:∀{ds ys:List D},Dr (fun _ y=>P y) ds ys->∀y∈ys,P y
 |_,_,.nil,y,hy=>by cases hy
 |_,_,.skip h,y,hy=>Dr.alls h y hy
 |_,_,.put p h,y,hy=>by
  rcases Me.mp hy with rfl|hy
  ·exact p
  ·exact Dr.alls h y hy
theorem Ip{S:aF}{ns:List Int}{i:Nat}{o2 o3 o4 o5 o6 o7:Option D}:∃x2 x3 x4 x5 x6 x7 S1,kM [ar (.ro (ns.map D.int)),ar (.int i),o2,o3,o4,o5,o6,o7] S=ar (.ok (.nx [ar (.ro (ns.map D.int)),ar (.int i),x2,x3,x4,x5,x6,x7]),S1):=by
 obtain⟨_,_,O,xs,rfl,rfl,hs⟩:=Fc (S:=S) (ns:=ns) (k:=i) (Q:=fun d r=>∃xs,d= .lst S.length/\r=S++[xs]/\ez (S++[xs]) S.length) fun xs h=>⟨xs,rfl,rfl,h⟩;generalize S++[xs]=T0 at O hs;generalize S.length=k at O hs;obtain⟨n,E,G,e1,C,w,k1,l1⟩:=Ib hs;obtain⟨z,I,e2,F,k2,l2⟩:=rl (n:=n) k1.st (by omega)
 obtain⟨E',T3,e3,b,_,k3⟩:=tH k2.st F w;obtain⟨X,L,T,B⟩:=lN (c:=cM [ak n E,tupI z]) k2.st e3 k3 n8;have a:z.length=n:=by rw[F.length_eq];unfold ij;rw[LR,Ms]
 obtain⟨ys,Z,o,H,k4,l4⟩:=tx (mi:=oJ (mK (.int 4))) (g:=gN 0) (t:=ni) (m:=nj) (k:=k) (its:=bG 0 4) (js:=[none,ar 2,ar 4]) (ρ:=[ar (.ro (ns.map D.int)),ar (.int i),ar (.lst k),ar (ak n E),ar (tupI z),ar (ak n E'),o6,o7]) (fun ρ=>∃x,ρ=[x,ar (.lst k),ar (tupI z)]) (fun _ y=>Th y/\fU 0 y=bc) ((nZ (x:=.int 4) rfl).trans (yc (by omega))) (by unfold bG;rw[LR,Ms];omega) ⟨none,rfl⟩ T.st (fun d y h=>h.2)
  (fun d hd ρ S ⟨x,hρ⟩ hs=>by
   subst hρ;refine⟨_,bc,S,rfl,⟨_,rfl⟩,rfl,.refl hs,rfl,fun _=>?_⟩;obtain⟨d',S1,e,f,cd,kk,s⟩:=FE (z:=z) hs (by omega)
   refine⟨d',S1,?_,⟨f,cd⟩,kk,s⟩;show jt (av _ _ _) S=_;rw[call2 (x:=.lst k) (y:=tupI z) rfl rfl];exact e)
 have W:=Dr.alls H;have tz:=u6 (z:=z) (m:=7) (by omega)
 have b3:ys.length<=4:=by have:=H.len;unfold bG at this;rw[LR,Ms]at this;exact this
 have l:aX bK (aP (bx (ae (mV 4) ao))) (aP (cq (oJ (mK (.int 4))) (gN 0) ni nj [none,ar 2,ar 4])) [ar (.ro (ns.map D.int)),ar (.int i),ar (.lst k),ar (ak n E),ar (tupI z),ar (ak n E'),o6,o7] X=ar (.ok (.lst Z.length),Z++[tupI z::ys]):=by
  refine(hU (x:=.fz [tupI z]) (S1:=X) (Mz (things (us:=[tupI z]) rfl (by unfold cG cG;rw[tz.cl];rfl) (by show 1<=50;decide)) X) o).trans ?_
  exact dj (by show ys.length+1<=lim;unfold lim;omega)
 obtain⟨Y,N,hA⟩:∃Y:List D,(∀d∈Y,Th d)/\il (dG FP (aX bA (mV 3) (mK (.int 0))) (mK (.int 0))) (nF (xQ dE (mV 6) (aP (aX bK (aP (nE (mV 4) (oS (mK (.int 1))) (oN))) (aP (nE (mV 4) (oN) (oS (mK (.int 1))))))))) cK [ar (.ro (ns.map D.int)),ar (.int i),ar (.lst k),ar (ak n E),ar (tupI z),ar (ak n E'),ar (.lst Z.length),o7] (Z++[tupI z::ys])=ar (.ok (.nx [ar (.ro (ns.map D.int)),ar (.int i),ar (.lst k),ar (ak n E),ar (tupI z),ar (ak n E'),ar (.lst Z.length),o7]),Z++[Y]):=by
  have U:dG FP (aX bA (mV 3) (mK (.int 0))) (mK (.int 0)) [ar (.ro (ns.map D.int)),ar (.int i),ar (.lst k),ar (ak n E),ar (tupI z),ar (ak n E'),ar (.lst Z.length),o7]=a_ (decide (0<(n:Int))):=cm (x:=.int n) (y:=.int 0) rfl rfl rfl;have h0:∀d∈tupI z::ys,Th d:=fun d hd=>by
   rcases Me.mp hd with rfl|hd
   ·exact tz.th (by decide)
   ·exact(W d hd).1
  by_cases h:0<n
  ·obtain⟨d1,h1,t1⟩:=rA (e:=mV 4) (ρ:=[ar (.ro (ns.map D.int)),ar (.int i),ar (.lst k),ar (ak n E),ar (tupI z),ar (ak n E'),ar (.lst Z.length),o7]) (lo:=oS (mK (.int 1))) (hi:=oN) rfl tz (rC (i:=1) rfl) rfl (by decide)
   obtain⟨d2,j,A⟩:=rA (e:=mV 4) (ρ:=[ar (.ro (ns.map D.int)),ar (.int i),ar (.lst k),ar (ak n E),ar (tupI z),ar (ak n E'),ar (.lst Z.length),o7]) (lo:=oN) (hi:=oS (mK (.int 1))) rfl tz rfl (rC (i:=1) rfl) (by decide)
   obtain⟨d3,v,t3⟩:=rB h1 t1 j A (by decide)
   refine⟨tupI z::ys++[d3],fun d hd=>?_,(Mz ((bg U).trans (if_pos (L8 (by omega)))) _).trans (nq (x:=.non) ((lO (x:=.lst Z.length) rfl rfl (Mz v _)).trans (wC (by rw[Ml];omega))))⟩
   rcases M6.mp hd with hd|hd
   ·exact h0 d hd
   ·rw[NV.mp hd];exact t3.th (by decide)
  ·exact⟨tupI z::ys,h0,Mz ((bg U).trans (if_neg (by rw[Mu];omega))) _⟩
 have J:ez (Z++[Y]) k:=k4.st.grow;obtain⟨K,hF⟩:=zX (a0:=ar (.ro (ns.map D.int))) (a1:=ar (.int i)) (a2:=ar (.lst k)) (a4:=ar (tupI z)) (a6:=ar (.lst Z.length)) (its:=Y) (S:=Z++[Y]) (p:=Z.length) C w b cB Y o7 N;have P:iq (mV 6) [ar (.ro (ns.map D.int)),ar (.int i),ar (.lst k),ar (ak n E),ar (tupI z),ar (ak n E'),ar (.lst Z.length),o7] (Z++[Y])=ar (.ok ⟨Y,.some Z.length⟩,Z++[Y]):=by
  show(getL Z.length>>=_) _=_;rw[aO (cX cB)];rfl
 obtain⟨R,u,k5,l5⟩:=wJ J C w;refine⟨ar (.lst k),ar (ak n E),ar (tupI z),ar (ak n E'),ar (.lst Z.length),K,R,?_⟩;unfold kM;refine(aL (S1:=T0) (bB (x:=.lst k) ?_)).trans ((aL (S1:=G) (bB (x:=ak n E) ?_)).trans ((aL (S1:=I) (bB (x:=tupI z) ?_)).trans ((aL (S1:=X) (bB (x:=ak n E') ?_)).trans ((aL (bB l)).trans ((aL hA).trans ((aL (Fi P hF)).trans ?_))))))
 ·rw[call2 (x:=.ro (ns.map D.int)) (y:=.int i) rfl rfl];exact O
 ·show jt (av _ _ _) T0=_;rw[call2 (x:=.lst k) (y:=.int 7) rfl rfl];exact e1
 ·show jt (av _ _ _) G=_;rw[call2 (x:=.lst k) (y:=.int n) rfl rfl];exact e2
 ·show jt (av _ _ _) I=_;rw[call2 (x:=ak n E) (y:=tupI z) rfl rfl];exact L
 ·have q:aP (av bt (ae (mV 2) (ae (mV 3) ao))) [ar (.ro (ns.map D.int)),ar (.int i),ar (.lst k),ar (ak n E),ar (tupI z),ar (ak n E'),ar (.lst Z.length),K] (Z++[Y])=ar (.ok (.bl bc),R):=by
   show jt (av _ _ _) _=_;rw[call2 (x:=.lst k) (y:=ak n E) rfl rfl];exact u
  have U:dq (bV (aP (av bt (ae (mV 2) (ae (mV 3) ao))))) [ar (.ro (ns.map D.int)),ar (.int i),ar (.lst k),ar (ak n E),ar (tupI z),ar (ak n E'),ar (.lst Z.length),K] (Z++[Y])=ar (.ok c_,R):=by
   show((aP _ _>>=lE)>>=_) _=_;rw[eB,aO q];rfl
  exact(rf U).trans (if_neg (by decide))
theorem wK{its:List D}{ns:List Int}:∀(ts:List Nat) (o1 o2 o3 o4 o5 o6 o7:Option D) (S:aF),∃ ρ S1,eG ⟨its,.none⟩ (gN 1) kM (ts.map fun i:Nat=>.int (0+(i:Int))) [ar (.ro (ns.map D.int)),o1,o2,o3,o4,o5,o6,o7] S=ar (.ok (.nx ρ),S1)
 |[],o1,o2,o3,o4,o5,o6,o7,S=>⟨_,S,by rw[Np,gW];rfl⟩
 |t::ts,o1,o2,o3,o4,o5,o6,o7,S=>by
  obtain⟨Z,x3,x4,x5,x6,x7,S1,h⟩:=Ip (S:=S) (ns:=ns) (i:=t) (o2:=o2) (o3:=o3) (o4:=o4) (o5:=o5) (o6:=o6) (o7:=o7);obtain⟨ρ,S2,Y⟩:=wK (its:=its) (ns:=ns) ts (ar (.int t)) Z x3 x4 x5 x6 x7 S1;refine⟨ρ,S2,?_⟩;rw[Mh,ND];exact(iV rfl h).trans Y
theorem J4{S:aF}{ns:List Int}:runs (sZ [.ro (ns.map D.int)]) S (fun d _=>d= .bl bc):=by
 have hm:av minD (ae (b9 cz (mV 0)) (ae (mK (.int 6)) ao)) [ar (.ro (ns.map D.int)),none,none,none,none,none,none,none]=a_ (.int (if (6:Int)<(ns.map D.int).length then 6 else (ns.map D.int).length)):=(call2 (x:=.int (ns.map D.int).length) (y:=.int 6) rfl rfl).trans rfl;have Z:av maxD (ae (mK (.int 1)) (ae (av minD (ae (b9 cz (mV 0)) (ae (mK (.int 6)) ao))) ao)) [ar (.ro (ns.map D.int)),none,none,none,none,none,none,none]=a_ (.int (if (if (6:Int)<(ns.map D.int).length then (6:Int)else (ns.map D.int).length)>1 then (if (6:Int)<(ns.map D.int).length then 6 else (ns.map D.int).length)else 1)):=(call2 (x:=.int 1) rfl hm).trans rfl;generalize hn:(if (if (6:Int)<(ns.map D.int).length then (6:Int)else (ns.map D.int).length)>1 then (if (6:Int)<(ns.map D.int).length then (6:Int)else (ns.map D.int).length)else 1)=n at Z;have Y:n<=6:=by rw[<-hn];split<;>split<;>omega
 have X:1<=n:=by rw[<-hn];split<;>split<;>omega
 have hi:=(nZ Z).trans (yc (by omega))
 obtain⟨ρ,S1,hf⟩:=wK (its:=bG 0 n.toNat) (ns:=ns) (ed n.toNat) none none none none none none none S;refine⟨.bl bc,S1,ff (o:=.ret (.bl bc)) ?_ rfl,rfl⟩;unfold Df;exact(aL (mn hi hf)).trans rfl
def top(i:Nat):Stmt:=PySem.Challenge.pw_tiewebs_k60_tie_maps.main.body.getD i (.Pass ⟨0,0,0,0⟩)
structure Txt(K:dV)(mg:Str->Option aC):Prop where
 err:gF K=bc
 dk:EY K=bc
 b_ValueError:mg "ValueError"=none
 b_all:mg "all"=none
 b_bool:mg "bool"=none
 b_enumerate:mg "enumerate"=none
 b_int:mg "int"=none
 b_isinstance:mg "isinstance"=none
 b_len:mg "len"=none
 b_list:mg "list"=none
 b_max:mg "max"=none
 b_min:mg "min"=none
 b_range:mg "range"=none
 b_set:mg "set"=none
 b_sorted:mg "sorted"=none
 b_tuple:mg "tuple"=none
 b_zip:mg "zip"=none
 g_MOST_MAPPED:∃t,mg "MOST_MAPPED"=ar (.int 7 t)
 g_MOST_PLACES:∃t,mg "MOST_PLACES"=ar (.int 14 t)
theorem wL:FnScope ["thing"] ["thing"] (au (top 17)):=⟨rfl,rfl,rfl,by decide+kernel,rfl,by decide+kernel,by decide+kernel⟩
theorem yq:FnScope ["thing"] ["thing"] (au (top 18)):=⟨rfl,rfl,rfl,by decide+kernel,rfl,by decide+kernel,by decide+kernel⟩
theorem u9:FnScope ["things"] ["things"] (au (top 21)):=⟨rfl,rfl,rfl,by decide+kernel,rfl,by decide+kernel,by decide+kernel⟩
theorem wM:FnScope ["web","one","other"] ["web","one","other"] (au (top 25)):=⟨rfl,rfl,rfl,by decide+kernel,rfl,by decide+kernel,by decide+kernel⟩
theorem pq:FnScope ["web","places"] ["web","places"] (au (top 30)):=⟨rfl,rfl,rfl,by decide+kernel,rfl,by decide+kernel,by decide+kernel⟩
theorem iB:FnScope ["_law_state_here","_law_many","_law_found","_law_stirred"] ["_law_state_here","_law_many"] (au (top 36)):=⟨rfl,rfl,rfl,by decide+kernel,rfl,by decide+kernel,by decide+kernel⟩
theorem pA:FnScope ["_law_script","_law_k"] ["_law_script","_law_k"] (au (top 41)):=⟨rfl,rfl,rfl,by decide+kernel,rfl,by decide+kernel,by decide+kernel⟩
theorem gD:FnScope ["_law_web_here","_law_ties","_law_found","_law_a","_law_b"] ["_law_web_here"] (au (top 44)):=⟨rfl,rfl,rfl,by decide+kernel,rfl,by decide+kernel,by decide+kernel⟩
theorem gX:FnScope ["_law_web_here","_law_names","_law_ties","_law_a","_law_b"] ["_law_web_here","_law_names"] (au (top 47)):=⟨rfl,rfl,rfl,by decide+kernel,rfl,by decide+kernel,by decide+kernel⟩
theorem r0:FnScope ["_law_thing"] ["_law_thing"] (au (top 50)):=⟨rfl,rfl,rfl,by decide+kernel,rfl,by decide+kernel,by decide+kernel⟩
theorem vd:FnScope ["_law_web_here","_law_one","_law_other"] ["_law_web_here","_law_one","_law_other"] (au (top 51)):=⟨rfl,rfl,rfl,by decide+kernel,rfl,by decide+kernel,by decide+kernel⟩
theorem eA:FnScope ["_law_one","_law_other","_law_places","_law_found","_law_a","_law_b","_law_tie"] ["_law_one","_law_other","_law_places"] (au (top 53)):=⟨rfl,rfl,rfl,by decide+kernel,rfl,by decide+kernel,by decide+kernel⟩
theorem wN:FnScope ["many","thing"] ["many","thing"] (au (top 19)):=⟨rfl,rfl,rfl,by decide+kernel,rfl,by decide+kernel,by decide+kernel⟩
theorem rD:FnScope ["one","other","start","place","at"] ["one","other","start","place"] (au (top 29)):=⟨rfl,rfl,rfl,by decide+kernel,rfl,by decide+kernel,by decide+kernel⟩
theorem j8:FnScope ["_law_state_here","_law_some"] ["_law_state_here"] (au (top 37)):=⟨rfl,rfl,rfl,by decide+kernel,rfl,by decide+kernel,by decide+kernel⟩
theorem lR:FnScope ["_law_script","_law_k","_law_cell"] ["_law_script","_law_k"] (au (top 42)):=⟨rfl,rfl,rfl,by decide+kernel,rfl,by decide+kernel,by decide+kernel⟩
theorem jo:FnScope ["_law_state_here","_law_many","_law_often","_law_ties","_law_a"] ["_law_state_here","_law_many","_law_often"] (au (top 43)):=⟨rfl,rfl,rfl,by decide+kernel,rfl,by decide+kernel,by decide+kernel⟩
theorem jq:FnScope ["_law_state_here","_law_many","_law_left","_law_found"] ["_law_state_here","_law_many"] (au (top 45)):=⟨rfl,rfl,rfl,by decide+kernel,rfl,by decide+kernel,by decide+kernel⟩
theorem cT:FnScope ["_law_state_here","_law_thing","_law_at","_law_to","_law_odd","_law_other","_law_some"] ["_law_state_here","_law_thing"] (au (top 49)):=⟨rfl,rfl,rfl,by decide+kernel,rfl,by decide+kernel,by decide+kernel⟩
theorem iX:FnScope ["_law_one","_law_other","_law_thing","_law_a","_law_b"] ["_law_one","_law_other","_law_thing"] (au (top 52)):=⟨rfl,rfl,rfl,by decide+kernel,rfl,by decide+kernel,by decide+kernel⟩
theorem oq:FnScope ["many","thing","low","high"] ["many","thing"] (au (top 20)):=⟨rfl,rfl,rfl,by decide+kernel,rfl,by decide+kernel,by decide+kernel⟩
theorem bO:FnScope ["_law_state_here","_law_most","_law_many","_law_some","_law_ties","_law_at","_law_one","_law_other","_law_turn","_law_a","_law_b"] ["_law_state_here","_law_most"] (au (top 46)):=⟨rfl,rfl,rfl,by decide+kernel,rfl,by decide+kernel,by decide+kernel⟩
theorem ot:FnScope ["thing","many","ties"] ["thing"] (au (top 22)):=⟨rfl,rfl,rfl,by decide+kernel,rfl,by decide+kernel,by decide+kernel⟩
theorem dQ:FnScope ["_law_state_here","_law_most","_law_way","_law_many","_law_web_here","_law_a","_law_b","_law_ties"] ["_law_state_here","_law_most"] (au (top 48)):=⟨rfl,rfl,rfl,by decide+kernel,rfl,by decide+kernel,by decide+kernel⟩
theorem wO:FnScope ["thing"] ["thing"] (au (top 23)):=⟨rfl,rfl,rfl,by decide+kernel,rfl,by decide+kernel,by decide+kernel⟩
theorem mr:FnScope ["web","most"] ["web","most"] (au (top 24)):=⟨rfl,rfl,rfl,by decide+kernel,rfl,by decide+kernel,by decide+kernel⟩
theorem rE:FnScope ["one","other"] ["one","other"] (au (top 28)):=⟨rfl,rfl,rfl,by decide+kernel,rfl,by decide+kernel,by decide+kernel⟩
theorem vf:FnScope ["_law_found","_law_due"] ["_law_found","_law_due"] (au (top 39)):=⟨rfl,rfl,rfl,by decide+kernel,rfl,by decide+kernel,by decide+kernel⟩
theorem nA:FnScope ["one","other","thing","many"] ["one","other","thing"] (au (top 31)):=⟨rfl,rfl,rfl,by decide+kernel,rfl,by decide+kernel,by decide+kernel⟩
theorem wQ:FnScope ["one","other","thing"] ["one","other","thing"] (au (top 33)):=⟨rfl,rfl,rfl,by decide+kernel,rfl,by decide+kernel,by decide+kernel⟩
theorem yr:FnScope ["one","other","places"] ["one","other","places"] (au (top 34)):=⟨rfl,rfl,rfl,by decide+kernel,rfl,by decide+kernel,by decide+kernel⟩
theorem cg:FnScope ["_law_call","_law_error","e","_law_marks"] ["_law_call"] (au (top 38)):=⟨rfl,rfl,rfl,by decide+kernel,rfl,by decide+kernel,by decide+kernel⟩
theorem gE:FnScope ["_law_call","_law_many","_law_most","_law_error","e"] ["_law_call","_law_many","_law_most"] (au (top 40)):=⟨rfl,rfl,rfl,by decide+kernel,rfl,by decide+kernel,by decide+kernel⟩
theorem cN:FnScope ["_law_state_here","_law_web_here","_law_bad","_law_great","_law_greater"] ["_law_state_here","_law_web_here"] (au (top 54)):=⟨rfl,rfl,rfl,by decide+kernel,rfl,by decide+kernel,by decide+kernel⟩
theorem kQ:FnScope ["_law_script","_law_k","_law_state_here","_law_one","_law_names","_law_other","_law_things","_law_thing"] ["_law_script"] (au (top 55)):=⟨rfl,rfl,rfl,by decide+kernel,rfl,by decide+kernel,by decide+kernel⟩
section
variable {P:ee}{w:eM}{K:dV}{mg:Str->Option aC}{base:fg}
theorem wR{f:dt}{Y:fc}(F:Fun K "is_whole" "is_whole" (top 17) f Y)(X:mg "is_whole"=ar (.ref f))(T:Txt K mg):DefX P w K mg base 1 "is_whole" ["thing"] cU:=
 bR (m:=qO) F X (F.binds fun _ _ _ _ _ _ us Z=>match us,Z with|[_],_=>rfl) wL rfl fun U A outer s H E S=>
  aJ (a8 (ko (gk (Ts:="int") T.b_isinstance T.b_int (aa 0)) (lV (BM (gk (Ts:="bool") T.b_isinstance T.b_bool (aa 0))))))
end
section
variable {P:ee}{w:eM}{K:dV}{mg:Str->Option aC}{base:fg}
theorem yt{f:dt}{Y:fc}(F:Fun K "is_pair" "is_pair" (top 18) f Y)(U:mg "is_pair"=ar (.ref f))(T:Txt K mg):DefX P w K mg base 1 "is_pair" ["thing"] dH:=
 bR (m:=sX) F U (F.binds fun _ _ _ _ _ _ us Z=>match us,Z with|[_],_=>rfl) yq rfl fun S A outer s H E X=>
  aJ (a8 (ko (gk (Ts:="tuple") T.b_isinstance T.b_tuple (aa 0)) (lV (yJ (gK X) (eI T.b_len (aa 0)) (aB)))))
end
section
variable {P:ee}{w:eM}{K:dV}{mg:Str->Option aC}{base:fg}
theorem vg{f:dt}{Y:fc}(F:Fun K "is_rising" "is_rising" (top 21) f Y)(U:mg "is_rising"=ar (.ref f))(T:Txt K mg):DefX P w K mg base 1 "is_rising" ["things"] fZ:=
 bR (m:=oU) F U (F.binds fun _ _ _ _ _ _ us Z=>match us,Z with|[_],_=>rfl) u9 rfl fun S A outer s H E X=>
  aJ (a8 (l8 rfl T.b_all (aE (fO (t:=iO) (m:=iP) (nU (Nc:=["ahead","behind"]) (js:=[none,none]) (au (top 21)) ["things"] (fun _=>rfl) rfl (by decide+kernel)) rfl (zh T.b_zip (aa 0) (aE (eS (aa 0) (gj (aB)) (gi)))) (fun C ex s2 R=>⟨jh rfl (bw (ba 0 (show(["ahead","behind"]:List Str).Nodup by decide+kernel)) (bw (ba 1 (show(["ahead","behind"]:List Str).Nodup by decide+kernel)) (fN))),gS,FQ (Ct X) (aa 0) (aa 1)⟩)))))
end
section
variable {P:ee}{w:eM}{K:dV}{mg:Str->Option aC}{base:fg}
theorem wU{f:dt}{Y:fc}(F:Fun K "are_tied" "are_tied" (top 25) f Y)(U:mg "are_tied"=ar (.ref f))(T:Txt K mg):DefX P w K mg base 1 "are_tied" ["web","one","other"] eW:=
 bR (m:=qP) F U (F.binds fun _ _ _ _ _ _ us Z=>match us,Z with|[_,_,_],_=>rfl) wM rfl fun S A outer s H E X=>
  aJ (a8 (FS (gK X) (cF (af (lZ rfl T.b_min (af (aa 1) (af (aa 2) (ai) ag) ag)) (af (lY rfl T.b_max (af (aa 1) (af (aa 2) (ai) ag) ag)) (ai) aY) aY)) (aM (aa 0) (aB))))
end
section
variable {P:ee}{w:eM}{K:dV}{mg:Str->Option aC}{base:fg}
theorem pB{f:dt}{Y:fc}(F:Fun K "ties_reached" "ties_reached" (top 30) f Y)(X:mg "ties_reached"=ar (.ref f))(T:Txt K mg):DefX P w K mg base 1 "ties_reached" ["web","places"] cV:=
 bR (m:=kI) F X (F.binds fun _ _ _ _ _ _ us Z=>match us,Z with|[_,_],_=>rfl) pq rfl fun U A outer s H E R=>
  aJ (a8 (aE (fO (t:=gm) (m:=gn) (nU (Nc:=["low","high","places"]) (js:=[none,none,ar 1]) (au (top 30)) ["web","places"] (fun _=>rfl) rfl (by decide+kernel)) rfl (jL (aM (aa 0) (aB))) (fun C ex s2 S=>⟨jh rfl (bw (ba 0 (show(["low","high","places"]:List Str).Nodup by decide+kernel)) (bw (ba 1 (show(["low","high","places"]:List Str).Nodup by decide+kernel)) (fN))),gS,eT T.b_tuple (aE (iE T.b_sorted (aE (bE (af (aM (aa 2) (aa 0)) (af (aM (aa 2) (aa 1)) (ai) aS) aS)))))⟩))))
end
section
variable {P:ee}{w:eM}{K:dV}{mg:Str->Option aC}{base:fg}
theorem vh{f:dt}{Y:fc}(F:Fun K "_law_take" "_law_take" (top 36) f Y)(X:mg "_law_take"=ar (.ref f))(T:Txt K mg):DefX P w K mg base 1 "_law_take" ["_law_state_here","_law_many"] aw:=
 bR (m:=oV) F X (F.binds fun _ _ _ _ _ _ us Z=>match us,Z with|[_,_],_=>rfl) iB rfl fun U A outer s H E S=>
  aA (cy (eF (aM (aa 0) (aB))) (aA (bj 2 iB.nd (nN (aM (aa 0) (aB)) (aa 1)) (hs:=df)) (aA (kq (yI (aM (aa 0) (aB)) (aa 1)) (pJ (aa 0) (aB))) (aJ (a8 (aa 2))))) (bF)) (aA (kq (nN (b7 (qg (aM (aa 0) (aB)) (aB)) (aB)) (aB)) (pJ (aa 0) (aB))) (aA (bj 3 iB.nd (nN (b7 (b7 (qg (aM (aa 0) (aB)) (aM (aa 0) (aB))) (qg (aB) (aM (aa 0) (aB)))) (aB)) (aB)) (hs:=df)) (aA (bj 3 iB.nd (nN (b7 (qg (aa 3) (aa 3)) (qg (aB) (aa 3))) (aB)) (hs:=df)) (aJ (a8 (nN (yI (aa 3) (aB)) (aa 1)))))))
end
section
variable {P:ee}{w:eM}{K:dV}{mg:Str->Option aC}{base:fg}
theorem pC{f:dt}{Y:fc}(F:Fun K "_law_cell_at" "_law_cell_at" (top 41) f Y)(U:mg "_law_cell_at"=ar (.ref f))(T:Txt K mg):DefX P w K mg base 1 "_law_cell_at" ["_law_script","_law_k"] dI:=
 bR (m:=kJ) F U (F.binds fun _ _ _ _ _ _ us Z=>match us,Z with|[_,_],_=>rfl) pA rfl fun S A outer s H E X=>
  aA (cy (oB (Ct X) (aa 1) (eI T.b_len (aa 0))) (aJ (a8 (aM (aa 0) (aa 1)))) (bF)) (aJ (a8 (aB)))
end
section
variable {P:ee}{w:eM}{K:dV}{mg:Str->Option aC}{base:fg}
theorem vi{f:dt}{X:fc}(F:Fun K "_law_made" "_law_made" (top 44) f X)(U:mg "_law_made"=ar (.ref f))(T:Txt K mg):DefX P w K mg base 1 "_law_made" ["_law_web_here"] f7:=
 bR (m:=ja) F U (F.binds fun _ _ _ _ _ _ us Y=>match us,Y with|[_],_=>rfl) gD rfl fun S A outer s H E Z=>
  aA (bj 1 gD.nd (aM (aa 0) (aB)) (hs:=jN)) (aA (bj 2 gD.nd (bE (ai)) (hs:=iw)) (aA (iH (b:=iQ) MZ rfl (fj T.b_range (eI T.b_len (aa 1))) (ba 3 gD.nd) (aJ (iH (b:=eX) MZ rfl (nP T.b_range (b7 (aa 3) (aB)) (eI T.b_len (aa 1))) (ba 4 gD.nd) (aJ (cy (ue (mJ (B1 (gK Z) (aM (aM (aa 1) (aa 3)) (aB)) (aM (aa 1) (aa 4))) (lX (B1 (gK Z) (aM (aM (aa 1) (aa 3)) (aB)) (aM (aa 1) (aa 4)))))) (aJ (dD (fY (aa 2) (cF (af (aa 3) (af (aa 4) (ai) ag) ag))))) (bF)))))) (aJ (a8 (cF (af (eI T.b_len (aa 1)) (af (eT T.b_tuple (aa 2)) (ai) aY) aY))))))
end
section
variable {P:ee}{w:eM}{K:dV}{mg:Str->Option aC}{base:fg}
theorem sd{f:dt}{Y:fc}(F:Fun K "_law_named" "_law_named" (top 47) f Y)(X:mg "_law_named"=ar (.ref f))(T:Txt K mg):DefX P w K mg base 1 "_law_named" ["_law_web_here","_law_names"] cM:=
 bR (m:=iy) F X (F.binds fun _ _ _ _ _ _ us Z=>match us,Z with|[_,_],_=>rfl) gX rfl fun U A outer s H E S=>
  aA (bj 2 gX.nd (bE (ai)) (hs:=iw)) (aA (iH (b:=d4) MZ rfl (jL (aM (aa 0) (aB))) (jh rfl (bw (ba 3 gX.nd) (bw (ba 4 gX.nd) (fN)))) (aJ (dD (fY (aa 2) (cF (af (lZ rfl T.b_min (af (aM (aa 1) (aa 3)) (af (aM (aa 1) (aa 4)) (ai) aS) aS)) (af (lY rfl T.b_max (af (aM (aa 1) (aa 3)) (af (aM (aa 1) (aa 4)) (ai) aS) aS)) (ai) aY) aY)))))) (aJ (a8 (cF (af (aM (aa 0) (aB)) (af (eT T.b_tuple (aE (iE T.b_sorted (aa 2)))) (ai) aY) aS)))))
end
section
variable {P:ee}{w:eM}{K:dV}{mg:Str->Option aC}{base:fg}
theorem se{f:dt}{Y:fc}(F:Fun K "_law_whole" "_law_whole" (top 50) f Y)(X:mg "_law_whole"=ar (.ref f))(T:Txt K mg):DefX P w K mg base 1 "_law_whole" ["_law_thing"] gp:=
 bR (m:=ng) F X (F.binds fun _ _ _ _ _ _ us Z=>match us,Z with|[_],_=>rfl) r0 rfl fun U A outer s H E S=>
  aJ (a8 (ko (gk (Ts:="int") T.b_isinstance T.b_int (aa 0)) (lV (BM (gk (Ts:="bool") T.b_isinstance T.b_bool (aa 0))))))
end
section
variable {P:ee}{w:eM}{K:dV}{mg:Str->Option aC}{base:fg}
theorem vj{f:dt}{Y:fc}(F:Fun K "_law_tied" "_law_tied" (top 51) f Y)(U:mg "_law_tied"=ar (.ref f))(T:Txt K mg):DefX P w K mg base 1 "_law_tied" ["_law_web_here","_law_one","_law_other"] dP:=
 bR (m:=oW) F U (F.binds fun _ _ _ _ _ _ us Z=>match us,Z with|[_,_,_],_=>rfl) vd rfl fun S A outer s H E X=>
  aJ (a8 (FS (gK X) (cF (af (lZ rfl T.b_min (af (aa 1) (af (aa 2) (ai) ag) ag)) (af (lY rfl T.b_max (af (aa 1) (af (aa 2) (ai) ag) ag)) (ai) aY) aY)) (aM (aa 0) (aB))))
end
section
variable {P:ee}{w:eM}{K:dV}{mg:Str->Option aC}{base:fg}
theorem pD{f:dt}{Y:fc}(F:Fun K "_law_tie_map" "_law_tie_map" (top 53) f Y)(U:mg "_law_tie_map"=ar (.ref f))(T:Txt K mg):DefX P w K mg base 1 "_law_tie_map" ["_law_one","_law_other","_law_places"] dJ:=
 bR (m:=kK) F U (F.binds fun _ _ _ _ _ _ us Z=>match us,Z with|[_,_,_],_=>rfl) eA rfl fun S A outer s H E X=>
  aA (bj 3 eA.nd (bE (ai)) (hs:=iw)) (aA (iH (b:=gq) MZ rfl (jL (aM (aa 0) (aB))) (jh rfl (bw (ba 4 eA.nd) (bw (ba 5 eA.nd) (fN)))) (aA (bj 6 eA.nd (cF (af (lZ rfl T.b_min (af (aM (aa 2) (aa 4)) (af (aM (aa 2) (aa 5)) (ai) aS) aS)) (af (lY rfl T.b_max (af (aM (aa 2) (aa 4)) (af (aM (aa 2) (aa 5)) (ai) aS) aS)) (ai) aY) aY)) (hs:=CP)) (aJ (dD (fY (aa 3) (wk (gK X) (aM (aa 1) (aB)) (aa 6))))))) (aJ (a8 (eT T.b_tuple (aa 3)))))
end
section
variable {P:ee}{w:eM}{K:dV}{mg:Str->Option aC}{base:fg}
theorem wV{f:dt}{U:fc}(F:Fun K "is_place" "is_place" (top 19) f U)(S:mg "is_place"=ar (.ref f))(T:Txt K mg)(Z:DefX P w K mg base 1 "is_whole" ["thing"] cU):DefX P w K mg base 2 "is_place" ["many","thing"] eY:=
 bR (m:=qQ) F S (F.binds fun _ _ _ _ _ _ us X=>match us,X with|[_,_],_=>rfl) wN rfl fun R A outer s H E Y=>
  aJ (a8 (ko (aK Z (Y.mono (by decide)) (af (aa 1) (ai) ag)) (lV (BX Bs (Br.or (xk (Ct Y))) (kU fun _ _ _ _=>.bl _) xv (aB) (aa 1) (aa 0)))))
end
section
variable {P:ee}{w:eM}{K:dV}{mg:Str->Option aC}{base:fg}
theorem yu{f:dt}{U:fc}(F:Fun K "goes_on" "goes_on" (top 29) f U)(S:mg "goes_on"=ar (.ref f))(T:Txt K mg)(Z:DefX P w K mg base 1 "are_tied" ["web","one","other"] eW):DefX P w K mg base 2 "goes_on" ["one","other","start","place"] iF:=
 bR (m:=nX) F S (F.binds fun _ _ _ _ _ _ us X=>match us,X with|[_,_,_,_],_=>rfl) rD rfl fun R A outer s H E Y=>
  aA (bj 4 rD.nd (eI T.b_len (aa 2)) (hs:=fx)) (aA (cy (B1 (gK Y) (aa 3) (aa 2)) (aJ (a8 (dF))) (bF)) (aJ (a8 (l8 rfl T.b_all (aE (fO (t:=jR) (m:=jS) (nU (Nc:=["ahead","one","at","other","start","place"]) (js:=[none,ar 0,ar 4,ar 1,ar 2,ar 3]) (au (top 29)) ["one","other","start","place","at"] (fun _=>rfl) rfl (by decide+kernel)) rfl (fj T.b_range (aa 4)) (fun C ex s2 Q=>⟨ba 0 (show(["ahead","one","at","other","start","place"]:List Str).Nodup by decide+kernel),gS,yJ (gK Y) (aE (aK Z (Y.mono (by decide)) (af (aa 1) (af (aa 0) (af (aa 2) (ai) ag) ag) ag))) (aE (aK Z (Y.mono (by decide)) (af (aa 3) (af (aM (aa 4) (aa 0)) (af (aa 5) (ai) ag) aS) ag)))⟩)))))))
end
section
variable {P:ee}{w:eM}{K:dV}{mg:Str->Option aC}{base:fg}
theorem pE{f:dt}{R:fc}(F:Fun K "_law_bad_web" "_law_bad_web" (top 37) f R)(O:mg "_law_bad_web"=ar (.ref f))(T:Txt K mg)(Z:DefX P w K mg base 1 "_law_take" ["_law_state_here","_law_many"] aw):DefX P w K mg base 2 "_law_bad_web" ["_law_state_here"] eZ:=by
 refine bR (m:=gr) F O (F.binds fun _ _ _ _ _ _ us S=>match us,S with|[_],_=>rfl) j8 rfl fun Y A outer s H E Q=>?_
 have key:∀e pos pos' X,SE (jH (lg P w) P w K mg base ["_law_state_here","_law_some"] "_law_bad_web" (au (top 37)) f Y A outer s H E).nox gh e X->ly e (ar (.Name "_law_some" pos')) pos.line (jH (lg P w) P w K mg base ["_law_state_here","_law_some"] "_law_bad_web" (au (top 37)) f Y A outer s H E).nox.env=a_ c_->SS (jH (lg P w) P w K mg base ["_law_state_here","_law_some"] "_law_bad_web" (au (top 37)) f Y A outer s H E).nox gh (.Assign [.Name "_law_some" pos'] e pos) (bH 1 X):=fun e pos pos' X h hs=>bj 1 j8.nd h (hs:=hs);have U:∀pos,SE (jH (lg P w) P w K mg base ["_law_state_here","_law_some"] "_law_bad_web" (au (top 37)) f Y A outer s H E).nox gh (.Name "_law_some" pos) (mV 1):=fun pos=>aa 1;refine aA ?_ ?_
 ·with_reducible refine key _ _ _ _ ?_ iw
  with_reducible refine bE ?_
  with_reducible refine aU (gG) ?_ aD
  with_reducible refine aU (aB) ?_ aD
  with_reducible refine aU (dU 6 ?_) ?_ bq
  case refine_1=>rfl
  with_reducible refine aU (dU 6 ?_) ?_ bq
  case refine_1=>rfl
  with_reducible refine aU (dU 6 ?_) ?_ bq
  case refine_1=>rfl
  with_reducible refine aU (dU 6 ?_) ?_ bq
  case refine_1=>rfl
  with_reducible refine aU ?_ ?_ bq
  case refine_1=>exact(cF (af (aB) (af (bE (ai)) (ai) m5) aD))
  with_reducible refine aU ?_ ?_ m5
  case refine_1=>exact(bE (af (aB) (af (dU 6 rfl) (ai) bq) aD))
  with_reducible refine aU (dU 6 ?_) ?_ bq
  case refine_1=>rfl
  with_reducible refine aU (dU 6 ?_) ?_ bq
  case refine_1=>rfl
  exact ai
 refine aA ?_ ?_
 ·with_reducible refine key _ _ _ _ ?_ df
  with_reducible refine b7 (U _) ?_
  with_reducible refine bE ?_
  with_reducible refine aU (dU 6 ?_) ?_ bq
  case refine_1=>rfl
  with_reducible refine aU (dU 6 ?_) ?_ bq
  case refine_1=>rfl
  with_reducible refine aU (dU 6 ?_) ?_ bq
  case refine_1=>rfl
  with_reducible refine aU (dU 6 ?_) ?_ bq
  case refine_1=>rfl
  with_reducible refine aU (dU 6 ?_) ?_ bq
  case refine_1=>rfl
  exact ai
 refine aA ?_ ?_
 ·with_reducible refine key _ _ _ _ ?_ df
  with_reducible refine b7 (U _) ?_
  exact bE (af (dU 6 rfl) (af (nL) (af (B8) (ai) yW) aD) bq)
 refine aA ?_ ?_
 ·with_reducible refine key _ _ _ _ ?_ df
  with_reducible refine b7 (U _) ?_
  with_reducible refine bE ?_
  with_reducible refine aU ?_ ?_ bq
  case refine_1=>exact(cF (af (aB) (af (cF (af (bE (af (aB) (af (aB) (ai) aD) aD)) (ai) m5)) (ai) bq) aD))
  with_reducible refine aU (dU 6 ?_) ?_ bq
  case refine_1=>rfl
  with_reducible refine aU (dU 6 ?_) ?_ bq
  case refine_1=>rfl
  with_reducible refine aU (dU 6 ?_) ?_ bq
  case refine_1=>rfl
  exact ai
 exact(aJ (a8 (aM (aa 1) (aK Z (Q.mono (by decide)) (af (aa 0) (af (aB) (ai) aD) ag)))))
end
section
variable {P:ee}{w:eM}{K:dV}{mg:Str->Option aC}{base:fg}
theorem sf{f:dt}{X:fc}(F:Fun K "_law_state" "_law_state" (top 42) f X)(S:mg "_law_state"=ar (.ref f))(T:Txt K mg)(Z:DefX P w K mg base 1 "_law_cell_at" ["_law_script","_law_k"] dI):DefX P w K mg base 2 "_law_state" ["_law_script","_law_k"] gu:=
 bR (m:=nh) F S (F.binds fun _ _ _ _ _ _ us Y=>match us,Y with|[_,_],_=>rfl) lR rfl fun R A outer s H E U=>
  aA (bj 2 lR.nd (aK Z (U.mono (by decide)) (af (aa 0) (af (aa 1) (ai) ag) ag)) (hs:=fx)) (aA (cy (Jp (aa 2) (BU (aB) (aB))) (aJ (a8 (bE (af (BS (aa 2) (BU (aB) (aB))) (af (dF) (ai) aD) eU)))) (bF)) (aJ (a8 (bE (af (nN (aa 2) (aB)) (af (dF) (ai) aD) eU)))))
end
section
variable {P:ee}{w:eM}{K:dV}{mg:Str->Option aC}{base:fg}
theorem sg{f:dt}{U:fc}(F:Fun K "_law_drawn" "_law_drawn" (top 43) f U)(S:mg "_law_drawn"=ar (.ref f))(T:Txt K mg)(Z:DefX P w K mg base 1 "_law_take" ["_law_state_here","_law_many"] aw):DefX P w K mg base 2 "_law_drawn" ["_law_state_here","_law_many","_law_often"] dg:=
 bR (m:=iz) F S (F.binds fun _ _ _ _ _ _ us X=>match us,X with|[_,_,_],_=>rfl) jo rfl fun R A outer s H E Y=>
  aA (bj 3 jo.nd (bE (ai)) (hs:=iw)) (aA (iH (b:=d9) MZ rfl (fj T.b_range (aa 1)) (ba 4 jo.nd) (aJ (dD (As (aa 3) (aE (fO (t:=fP) (m:=fQ) (nU (Nc:=["_law_b","_law_state_here","_law_often","_law_a"]) (js:=[none,ar 0,ar 2,ar 4]) (au (top 43)) ["_law_state_here","_law_many","_law_often","_law_ties","_law_a"] (fun _=>rfl) rfl (by decide+kernel)) rfl (nP T.b_range (b7 (aa 4) (aB)) (aa 1)) (fun C ex s2 Q=>⟨ba 0 (show(["_law_b","_law_state_here","_law_often","_law_a"]:List Str).Nodup by decide+kernel),uf (oB (Ct Y) (aE (aK Z (Y.mono (by decide)) (af (aa 1) (af (aB) (ai) aD) ag))) (aa 2)),cF (af (aa 3) (af (aa 0) (ai) ag) ag)⟩))))))) (aJ (a8 (cF (af (aa 1) (af (eT T.b_tuple (aa 3)) (ai) aY) ag)))))
end
section
variable {P:ee}{w:eM}{K:dV}{mg:Str->Option aC}{base:fg}
theorem sh{f:dt}{U:fc}(F:Fun K "_law_mixed" "_law_mixed" (top 45) f U)(S:mg "_law_mixed"=ar (.ref f))(T:Txt K mg)(Z:DefX P w K mg base 1 "_law_take" ["_law_state_here","_law_many"] aw):DefX P w K mg base 2 "_law_mixed" ["_law_state_here","_law_many"] bM:=
 bR (m:=iA) F S (F.binds fun _ _ _ _ _ _ us X=>match us,X with|[_,_],_=>rfl) jq rfl fun R A outer s H E Y=>
  aA (bj 2 jq.nd (mU rfl T.b_list T.b_range (aa 1)) (hs:=fx)) (aA (bj 3 jq.nd (bE (ai)) (hs:=iw)) (aA (BP (b:=ef) 64 MZ (i6 (gK Y) (aa 2) (aE (bE (ai)))) (aJ (dD (fY (aa 3) (B7 (aa 2) (aE (aK Z (Y.mono (by decide)) (af (aa 0) (af (eI T.b_len (aa 2)) (ai) aY) ag)))))))) (aJ (a8 (eT T.b_tuple (aa 3))))))
end
section
variable {P:ee}{w:eM}{K:dV}{mg:Str->Option aC}{base:fg}
theorem ou{f:dt}{U:fc}(F:Fun K "_law_bent_map" "_law_bent_map" (top 49) f U)(S:mg "_law_bent_map"=ar (.ref f))(T:Txt K mg)(Z:DefX P w K mg base 1 "_law_take" ["_law_state_here","_law_many"] aw):DefX P w K mg base 2 "_law_bent_map" ["_law_state_here","_law_thing"] c8:=
 bR (m:=fR) F S (F.binds fun _ _ _ _ _ _ us X=>match us,X with|[_,_],_=>rfl) cT rfl fun R A outer s H E Y=>
  aA (BO 2 3 rfl cT.nd (af (aE (aK Z (Y.mono (by decide)) (af (aa 0) (af (b7 (eI T.b_len (aa 1)) (aB)) (ai) eU) ag))) (af (aE (aK Z (Y.mono (by decide)) (af (aa 0) (af (b7 (eI T.b_len (aa 1)) (aB)) (ai) eU) ag))) (ai) aY) aY)) (aA (bj 4 cT.nd (aM (aE (bE (by (refine aU (aa 3) ?_ ag;refine aU (eI T.b_len (aa 1)) ?_ aY;refine aU (xS) ?_ qC;refine aU (dF) ?_ aD;refine aU (gG) ?_ aD;refine aU (nL) ?_ aD;refine aU (dU 6 rfl) ?_ bq;refine aU (dF) ?_ aD;exact ai)))) (aE (aK Z (Y.mono (by decide)) (af (aa 0) (af (aB) (ai) aD) ag)))) (hs:=jN)) (aA (bj 5 cT.nd (yM T.b_list (aa 1)) (hs:=fx)) (aA (cy (ue (BN (oB (Ct Y) (aa 2) (eI T.b_len (aa 1))) (yG (oB (Ct Y) (aa 3) (eI T.b_len (aa 1)))))) (aJ (kq (cF (af (aM (aa 1) (aa 3)) (af (aM (aa 1) (aa 2)) (ai) aS) aS)) (jh rfl (bw (pJ (aa 5) (aa 2)) (bw (pJ (aa 5) (aa 3)) (fN)))))) (bF)) (aA (bj 6 cT.nd (aE (bE (by (refine aU (eT T.b_tuple (aa 5)) ?_ aY;refine aU (eT T.b_tuple (aa 5)) ?_ aY;refine aU (aE (b7 (aE (b7 (aE (eS (aa 1) (gi) (gj (aa 2)))) (cF (af (aa 4) (ai) ag)))) (aE (eS (aa 1) (gj (b7 (aa 2) (aB))) (gi))))) ?_ eU;refine aU (aE (b7 (aE (b7 (aE (eS (aa 1) (gi) (gj (aa 2)))) (cF (af (aa 4) (ai) ag)))) (aE (eS (aa 1) (gj (aa 2)) (gi))))) ?_ eU;exact ai)))) (hs:=iw)) (aA (bj 6 cT.nd (aE (b7 (aa 6) (aE (bE (by (refine aU (aE (b7 (aE (eS (aa 1) (gi) (gj (aa 2)))) (aE (eS (aa 1) (gj (b7 (aa 2) (aB))) (gi))))) ?_ eU;refine aU (aE (yM T.b_list (aa 1))) ?_ aY;refine aU (aE (Hb (aa 1))) ?_ aS;refine aU (gG) ?_ aD;refine aU (B8) ?_ yW;refine aU (aB) ?_ aD;exact ai)))))) (hs:=df)) (aJ (a8 (aM (aa 6) (aE (aK Z (Y.mono (by decide)) (af (aa 0) (af (aB) (ai) aD) ag)))))))))))
end
section
variable {P:ee}{w:eM}{K:dV}{mg:Str->Option aC}{base:fg}
theorem rF{f:dt}{S:fc}(F:Fun K "_law_is_map" "_law_is_map" (top 52) f S)(R:mg "_law_is_map"=ar (.ref f))(T:Txt K mg)(Y:DefX P w K mg base 1 "_law_whole" ["_law_thing"] gp)(Z:DefX P w K mg base 1 "_law_tied" ["_law_web_here","_law_one","_law_other"] dP):DefX P w K mg base 2 "_law_is_map" ["_law_one","_law_other","_law_thing"] eE:=
 bR (m:=lK) F R (F.binds fun _ _ _ _ _ _ us U=>match us,U with|[_,_,_],_=>rfl) iX rfl fun Q A outer s H E X=>
  aA (cy (ue (mJ (i6 (gK X) (aM (aa 0) (aB)) (aM (aa 1) (aB))) (lX (fD (eF (gk (Ts:="tuple") T.b_isinstance T.b_tuple (aa 2))))))) (aJ (a8 (dF))) (bF)) (aA (cy (fD (eF (l8 rfl T.b_all (aE (fO (t:=fy) (m:=fA) (nU (Nc:=["_law_place"]) (js:=[none]) (au (top 52)) ["_law_one","_law_other","_law_thing","_law_a","_law_b"] (fun _=>rfl) rfl (by decide+kernel)) rfl (jL (aa 2)) (fun C ex s2 O=>⟨ba 0 (show(["_law_place"]:List Str).Nodup by decide+kernel),gS,aE (aK Y (X.mono (by decide)) (af (aa 0) (ai) ag))⟩)))))) (aJ (a8 (dF))) (bF)) (aA (cy (i6 (gK X) (aE (ya T.b_sorted (aa 2))) (aE (mU rfl T.b_list T.b_range (aM (aa 0) (aB))))) (aJ (a8 (dF))) (bF)) (aA (iH (b:=cR) MZ rfl (fj T.b_range (aM (aa 0) (aB))) (ba 3 iX.nd) (aJ (iH (b:=gL) MZ rfl (fj T.b_range (aa 3)) (ba 4 iX.nd) (aJ (cy (i6 (gK X) (aE (aK Z (X.mono (by decide)) (af (aa 0) (af (aa 3) (af (aa 4) (ai) ag) ag) ag))) (aE (aK Z (X.mono (by decide)) (af (aa 1) (af (aM (aa 2) (aa 3)) (af (aM (aa 2) (aa 4)) (ai) aS) aS) ag)))) (aJ (a8 (dF))) (bF)))))) (aJ (a8 (dF))))))
end
section
variable {P:ee}{w:eM}{K:dV}{mg:Str->Option aC}{base:fg}
theorem Bb{f:dt}{S:fc}(F:Fun K "is_tie" "is_tie" (top 20) f S)(R:mg "is_tie"=ar (.ref f))(T:Txt K mg)(Y:DefX P w K mg base 1 "is_pair" ["thing"] dH)(Z:DefX P w K mg base 2 "is_place" ["many","thing"] eY):DefX P w K mg base 3 "is_tie" ["many","thing"] kL:=
 bR (m:=qR) F R (F.binds fun _ _ _ _ _ _ us U=>match us,U with|[_,_],_=>rfl) oq rfl fun Q A outer s H E X=>
  aA (cy (fD (eF (aK Y (X.mono (by decide)) (af (aa 1) (ai) ag)))) (aJ (a8 (dF))) (bF)) (aA (kq (aa 1) (jh rfl (bw (ba 2 oq.nd) (bw (ba 3 oq.nd) (fN))))) (aJ (a8 (ko (aK Z (X.mono (by decide)) (af (aa 0) (af (aa 2) (ai) ag) ag)) (ko (aK Z (X.mono (by decide)) (af (aa 0) (af (aa 3) (ai) ag) ag)) (lV (FQ (Ct X) (aa 2) (aa 3))))))))
end
section
variable {P:ee}{w:eM}{K:dV}{mg:Str->Option aC}{base:fg}
theorem oy{f:dt}{S:fc}(F:Fun K "_law_few_ties" "_law_few_ties" (top 46) f S)(R:mg "_law_few_ties"=ar (.ref f))(T:Txt K mg)(Z:DefX P w K mg base 1 "_law_take" ["_law_state_here","_law_many"] aw)(Y:DefX P w K mg base 2 "_law_mixed" ["_law_state_here","_law_many"] bM):DefX P w K mg base 3 "_law_few_ties" ["_law_state_here","_law_most"] cf:=
 bR (m:=fS) F R (F.binds fun _ _ _ _ _ _ us U=>match us,U with|[_,_],_=>rfl) bO rfl fun Q A outer s H E X=>
  aA (bj 2 bO.nd (b7 (aB) (aE (aK Z (X.mono (by decide)) (af (aa 0) (af (lZ rfl T.b_min (af (aB) (af (b7 (aa 1) (aB)) (ai) eU) aD)) (ai) aY) ag)))) (hs:=df)) (aA (bj 3 bO.nd (aE (aK Y (X.mono (by decide)) (af (aa 0) (af (aa 2) (ai) ag) ag))) (hs:=fx)) (aA (bj 4 bO.nd (bE (ai)) (hs:=iw)) (aA (iH (b:=bX) MZ rfl (nP T.b_range (aB) (aa 2)) (ba 5 bO.nd) (aJ (cy (BW (aE (aK Z (X.mono (by decide)) (af (aa 0) (af (aB) (ai) aD) ag))) (aB)) (aA (BO 6 7 rfl bO.nd (af (aM (aa 3) (aa 5)) (af (aM (aa 3) (aE (aK Z (X.mono (by decide)) (af (aa 0) (af (aa 5) (ai) ag) ag)))) (ai) aS) aS)) (aJ (dD (fY (aa 4) (cF (af (lZ rfl T.b_min (af (aa 6) (af (aa 7) (ai) ag) ag)) (af (lY rfl T.b_max (af (aa 6) (af (aa 7) (ai) ag) ag)) (ai) aY) aY)))))) (bF)))) (aA (iH (b:=bY) MZ rfl (fj T.b_range (aE (aK Z (X.mono (by decide)) (af (aa 0) (af (aB) (ai) aD) ag)))) (ba 8 bO.nd) (aA (kq (aE (iE T.b_sorted (aE (bE (af (aE (aK Z (X.mono (by decide)) (af (aa 0) (af (aa 2) (ai) ag) ag))) (af (aE (aK Z (X.mono (by decide)) (af (aa 0) (af (aa 2) (ai) ag) ag))) (ai) aY) aY))))) (Dc rfl (bw (ba 9 bO.nd) (bw (ba 10 bO.nd) (fN))))) (aJ (cy (oB (Ct X) (aa 9) (aa 10)) (aJ (dD (fY (aa 4) (cF (af (aa 9) (af (aa 10) (ai) ag) ag))))) (bF))))) (aJ (a8 (cF (af (aa 2) (af (eT T.b_tuple (aE (iE T.b_sorted (aE (eS (aE (uA rfl (LJ X) T.b_sorted T.b_set (aa 4))) (gi) (gj (aa 1))))))) (ai) aY) ag))))))))
end
section
variable {P:ee}{w:eM}{K:dV}{mg:Str->Option aC}{base:fg}
theorem Bc{f:dt}{O:fc}(F:Fun K "is_web" "is_web" (top 22) f O)(Q:mg "is_web"=ar (.ref f))(T:Txt K mg)(Y:DefX P w K mg base 1 "is_whole" ["thing"] cU)(X:DefX P w K mg base 1 "is_pair" ["thing"] dH)(U:DefX P w K mg base 3 "is_tie" ["many","thing"] kL)(Z:DefX P w K mg base 1 "is_rising" ["things"] fZ):DefX P w K mg base 4 "is_web" ["thing"] jC:=
 bR (m:=qS) F Q (F.binds fun _ _ _ _ _ _ us R=>match us,R with|[_],_=>rfl) ot rfl fun N A outer s H E S=>
  aA (cy (fD (eF (aE (aK X (S.mono (by decide)) (af (aa 0) (ai) ag))))) (aJ (a8 (dF))) (bF)) (aA (kq (aa 0) (jh rfl (bw (ba 1 ot.nd) (bw (ba 2 ot.nd) (fN))))) (aA (cy (ue (mJ (fD (eF (aE (aK Y (S.mono (by decide)) (af (aa 1) (ai) ag))))) (mJ (fD (BY Bs Bs (kU fun _ _ _ _=>.bl _) (kU fun _ _ _ _=>.bl _) (aB) (aa 1) (qD rfl T.g_MOST_PLACES))) (lX (fD (eF (gk (Ts:="tuple") T.b_isinstance T.b_tuple (aa 2)))))))) (aJ (a8 (dF))) (bF)) (aJ (a8 (ko (l8 rfl T.b_all (aE (fO (t:=jb) (m:=jc) (nU (Nc:=["tie","many"]) (js:=[none,ar 1]) (au (top 22)) ["thing","many","ties"] (fun _=>rfl) rfl (by decide+kernel)) rfl (jL (aa 2)) (fun C ex s2 L=>⟨ba 0 (show(["tie","many"]:List Str).Nodup by decide+kernel),gS,aE (aK U (S.mono (by decide)) (af (aa 1) (af (aa 0) (ai) ag) ag))⟩)))) (lV (aE (aK Z (S.mono (by decide)) (af (aa 2) (ai) ag)))))))))
end
section
variable {P:ee}{w:eM}{K:dV}{mg:Str->Option aC}{base:fg}
theorem wW{f:dt}{N:fc}(F:Fun K "_law_web" "_law_web" (top 48) f N)(L:mg "_law_web"=ar (.ref f))(T:Txt K mg)(Z:DefX P w K mg base 1 "_law_take" ["_law_state_here","_law_many"] aw)(X:DefX P w K mg base 2 "_law_drawn" ["_law_state_here","_law_many","_law_often"] dg)(R:DefX P w K mg base 1 "_law_made" ["_law_web_here"] f7)(S:DefX P w K mg base 2 "_law_mixed" ["_law_state_here","_law_many"] bM)(Y:DefX P w K mg base 3 "_law_few_ties" ["_law_state_here","_law_most"] cf)(U:DefX P w K mg base 1 "_law_named" ["_law_web_here","_law_names"] cM):DefX P w K mg base 4 "_law_web" ["_law_state_here","_law_most"] gM:=
 bR (m:=jT) F L (F.binds fun _ _ _ _ _ _ us O=>match us,O with|[_,_],_=>rfl) dQ rfl fun J A outer s H E Q=>
  aA (bj 2 dQ.nd (aE (aK Z (Q.mono (by decide)) (af (aa 0) (af (aB) (ai) aD) ag))) (hs:=fx)) (aA (cy (oB (Ct Q) (aa 2) (aB)) (aA (bj 3 dQ.nd (BS (aa 1) (aM (aE (bE (by (refine aU (aB) ?_ aD;refine aU (aB) ?_ aD;refine aU (aB) ?_ aD;refine aU (aB) ?_ aD;refine aU (aB) ?_ aD;refine aU (aa 1) ?_ ag;exact ai)))) (aE (aK Z (Q.mono (by decide)) (af (aa 0) (af (aB) (ai) aD) ag))))) (hs:=df)) (aJ (a8 (aE (aK X (Q.mono (by decide)) (af (aa 0) (af (lY rfl T.b_max (af (aB) (af (aa 3) (ai) ag) aD)) (af (b7 (aa 2) (aB)) (ai) eU) aY) ag)))))) (bF)) (aA (bj 4 dQ.nd (aE (aK R (Q.mono (by decide)) (af (aE (aK Y (Q.mono (by decide)) (af (aa 0) (af (aa 1) (ai) ag) ag))) (ai) aY))) (hs:=fx)) (aA (bj 4 dQ.nd (aE (aK U (Q.mono (by decide)) (af (aa 4) (af (aE (aK S (Q.mono (by decide)) (af (aa 0) (af (aM (aa 4) (aB)) (ai) aS) ag))) (ai) aY) ag))) (hs:=fx)) (aA (cy (ue (mJ (FR (gK Q) (aa 2) (aB)) (lX (oB (Ct Q) (aM (aa 4) (aB)) (aB))))) (aJ (a8 (aa 4))) (bF)) (aA (kq (aE (iE T.b_sorted (aE (bE (af (aE (aK Z (Q.mono (by decide)) (af (aa 0) (af (aM (aa 4) (aB)) (ai) aS) ag))) (af (aE (aK Z (Q.mono (by decide)) (af (aa 0) (af (aM (aa 4) (aB)) (ai) aS) ag))) (ai) aY) aY))))) (Dc rfl (bw (ba 5 dQ.nd) (bw (ba 6 dQ.nd) (fN))))) (aA (xu 7 (t:=fH) (m:=fJ) dQ.nd (nU (Nc:=["_law_tie","_law_a","_law_b"]) (js:=[none,ar 5,ar 6]) (au (top 48)) ["_law_state_here","_law_most","_law_way","_law_many","_law_web_here","_law_a","_law_b","_law_ties"] (fun _=>rfl) rfl (by decide+kernel)) rfl (jL (aM (aa 4) (aB))) (fun C ex s2 I=>⟨ba 0 (show(["_law_tie","_law_a","_law_b"]:List Str).Nodup by decide+kernel),uf (i6 (gK Q) (aa 0) (cF (af (aa 1) (af (aa 2) (ai) ag) ag))),aa 0⟩)) (aA (cy (ue (BN (oB (Ct Q) (aa 5) (aa 6)) (yG (FR (gK Q) (eI T.b_len (aa 7)) (eI T.b_len (aM (aa 4) (aB))))))) (aJ (dD (fY (aa 7) (cF (af (aa 5) (af (aa 6) (ai) ag) ag))))) (bF)) (aJ (a8 (cF (af (aM (aa 4) (aB)) (af (eT T.b_tuple (aE (iE T.b_sorted (aa 7)))) (ai) aY) aS)))))))))))
end
section
variable {P:ee}{w:eM}{K:dV}{mg:Str->Option aC}{base:fg}
theorem wX{f:dt}{X:fc}(F:Fun K "need_web" "need_web" (top 23) f X)(S:mg "need_web"=ar (.ref f))(T:Txt K mg)(Z:DefX P w K mg base 4 "is_web" ["thing"] jC):DefX P w K mg base 5 "need_web" ["thing"] cH:=
 lh (m:=qT) F S (F.binds fun _ _ _ _ _ _ us Y=>match us,Y with|[_],_=>rfl) wO rfl fun R A outer s H E U=>
  aJ (cy (fD (eF (aE (de Z (U.mono (by decide)) cb.pass (af (aa 0) (ai) ag))))) (aJ (vV cb rfl T.err (by decide) (by decide) (af (nL) (ai) aD))) (bF))
end
section
variable {P:ee}{w:eM}{K:dV}{mg:Str->Option aC}{base:fg}
theorem mw{f:dt}{S:fc}(F:Fun K "need_few_places" "need_few_places" (top 24) f S)(R:mg "need_few_places"=ar (.ref f))(T:Txt K mg)(X:GrX P w K mg base)(Z:DefX P w K mg base 5 "need_web" ["thing"] cH):DefX P w K mg base 6 "need_few_places" ["web","most"] cD:=
 lh (m:=jd) F R (F.binds fun _ _ _ _ _ _ us U=>match us,U with|[_,_],_=>rfl) mr rfl fun Q A outer s H E Y=>
  aA (dD (aE (de Z (Y.mono (by decide)) cb.pass (af (aa 0) (ai) ag)))) (aJ (cy (BW (aM (aa 0) (aB)) (aa 1)) (aJ (C7 cb rfl T.err X (Y.mono (by decide)) (af (aM (aa 0) (aB)) (af (aa 1) (ai) ag) aS))) (bF)))
end
section
variable {P:ee}{w:eM}{K:dV}{mg:Str->Option aC}{base:fg}
theorem rG{f:dt}{S:fc}(F:Fun K "need_mapped" "need_mapped" (top 28) f S)(R:mg "need_mapped"=ar (.ref f))(T:Txt K mg)(Y:DefX P w K mg base 5 "need_web" ["thing"] cH)(Z:DefX P w K mg base 6 "need_few_places" ["web","most"] cD):DefX P w K mg base 7 "need_mapped" ["one","other"] bQ:=
 lh (m:=lL) F R (F.binds fun _ _ _ _ _ _ us U=>match us,U with|[_,_],_=>rfl) rE rfl fun Q A outer s H E X=>
  aA (dD (aE (de Y (X.mono (by decide)) cb.pass (af (aa 0) (ai) ag)))) (aA (dD (aE (de Y (X.mono (by decide)) cb.pass (af (aa 1) (ai) ag)))) (aA (dD (aE (de Z (X.mono (by decide)) cb.pass (af (aa 0) (af (qD rfl T.g_MOST_MAPPED) (ai) ag) ag)))) (aJ (dD (aE (de Z (X.mono (by decide)) cb.pass (af (aa 1) (af (qD rfl T.g_MOST_MAPPED) (ai) ag) ag)))))))
end
section
variable {P:ee}{w:eM}{K:dV}{mg:Str->Option aC}{base:fg}
theorem si{j:Nat}{X:List D->M D}{f:dt}{S:fc}(F:Fun K "_law_same" "_law_same" (top 39) f S)(R:mg "_law_same"=ar (.ref f))(T:Txt K mg)(Z:DefX P w K mg base (1+j) "_law_same" ["_law_found","_law_due"] X):DefX P w K mg base (1+j+1) "_law_same" ["_law_found","_law_due"] (kF 2 2 (dh X)):=
 bR (m:=dh X) F R (F.binds fun _ _ _ _ _ _ us U=>match us,U with|[_,_],_=>rfl) vf rfl fun Q A outer s H E Y=>
  aA (cy (eF (Es (Ts:="tuple") (Us:="list") T.b_isinstance T.b_tuple T.b_list (aa 1))) (aA (cy (ue (mJ (i6 (gK Y) (gk (Ts:="tuple") T.b_isinstance T.b_tuple (aa 0)) (gk (Ts:="tuple") T.b_isinstance T.b_tuple (aa 1))) (lX (i6 (gK Y) (gk (Ts:="list") T.b_isinstance T.b_list (aa 0)) (gk (Ts:="list") T.b_isinstance T.b_list (aa 1)))))) (aJ (a8 (dF))) (bF)) (aA (cy (i6 (gK Y) (eI T.b_len (aa 0)) (eI T.b_len (aa 1))) (aJ (a8 (dF))) (bF)) (aJ (a8 (l8 rfl T.b_all (aE (fO (t:=gv X) (m:=gw X) (nU (Nc:=["_law_one","_law_other"]) (js:=[none,none]) (au (top 39)) ["_law_found","_law_due"] (fun _=>rfl) rfl (by decide+kernel)) rfl (zh T.b_zip (aa 0) (aa 1)) (fun C ex s2 O=>⟨jh rfl (bw (ba 0 (show(["_law_one","_law_other"]:List Str).Nodup by decide+kernel)) (bw (ba 1 (show(["_law_one","_law_other"]:List Str).Nodup by decide+kernel)) (fN))),gS,aE (aK Z (Y.mono (LU _)) (af (aa 0) (af (aa 1) (ai) ag) ag))⟩)))))))) (bF)) (aJ (a8 (ko (yJ (gK Y) (aa 0) (aa 1)) (lV (yJ (gK Y) (gk (Ts:="bool") T.b_isinstance T.b_bool (aa 0)) (gk (Ts:="bool") T.b_isinstance T.b_bool (aa 1)))))))
theorem lS{f:dt}{X:fc}(F:Fun K "_law_same" "_law_same" (top 39) f X)(Z:mg "_law_same"=ar (.ref f))(T:Txt K mg):∀n,DefX P w K mg base (1+n) "_law_same" ["_law_found","_law_due"] (bS n)
 |0=>DefX.none F Z (F.binds fun _ _ _ _ _ _ us Y=>match us,Y with|[_,_],_=>rfl)
 |n+1=>si F Z T (lS F Z T n)
theorem vk{f:dt}{Y:fc}(F:Fun K "_law_same" "_law_same" (top 39) f Y)(Z:mg "_law_same"=ar (.ref f))(T:Txt K mg):DefX P w K mg base 7 "_law_same" ["_law_found","_law_due"] di:=lS F Z T 6
end
section
variable {P:ee}{w:eM}{K:dV}{mg:Str->Option aC}{base:fg}
theorem vm{f:dt}{Q:fc}(F:Fun K "map_holds" "map_holds" (top 31) f Q)(O:mg "map_holds"=ar (.ref f))(T:Txt K mg)(Y:DefX P w K mg base 2 "is_place" ["many","thing"] eY)(Z:DefX P w K mg base 7 "need_mapped" ["one","other"] bQ)(X:DefX P w K mg base 2 "goes_on" ["one","other","start","place"] iF):DefX P w K mg base 8 "map_holds" ["one","other","thing"] cO:=
 lh (m:=oX) F O (F.binds fun _ _ _ _ _ _ us S=>match us,S with|[_,_,_],_=>rfl) nA rfl fun N A outer s H E U=>
  aA (dD (aE (de Z (U.mono (by decide)) cb.pass (af (aa 0) (af (aa 1) (ai) ag) ag)))) (aA (bj 3 nA.nd (aM (aa 0) (aB)) (hs:=jN)) (aA (cy (ue (mJ (i6 (gK U) (aM (aa 1) (aB)) (aa 3)) (mJ (fD (eF (gk (Ts:="tuple") T.b_isinstance T.b_tuple (aa 2)))) (lX (i6 (gK U) (eI T.b_len (aa 2)) (aa 3)))))) (aJ (a8 (dF))) (bF)) (aA (cy (fD (eF (l8 rfl T.b_all (aE (uF (fO (t:=gx) (m:=gy) (nU (Nc:=["place","many"]) (js:=[none,ar 3]) (au (top 31)) ["one","other","thing","many"] (fun _=>rfl) rfl (by decide+kernel)) rfl (jL (aa 2)) (fun C ex s2 R=>⟨ba 0 (show(["place","many"]:List Str).Nodup by decide+kernel),gS,aE (aK Y (U.mono (by decide)) (af (aa 1) (af (aa 0) (ai) ag) ag))⟩))))))) (aJ (a8 (dF))) (bF)) (aJ (a8 (l8 rfl T.b_all (aE (uF (fO (t:=iR) (m:=iS) (nU (Nc:=["at","place","one","other","thing"]) (js:=[none,none,ar 0,ar 1,ar 2]) (au (top 31)) ["one","other","thing","many"] (fun _=>rfl) rfl (by decide+kernel)) rfl (EU T.b_enumerate (aa 2)) (fun C ex s2 R=>⟨jh rfl (bw (ba 0 (show(["at","place","one","other","thing"]:List Str).Nodup by decide+kernel)) (bw (ba 1 (show(["at","place","one","other","thing"]:List Str).Nodup by decide+kernel)) (fN))),gS,aE (aK X (U.mono (by decide)) (by (refine aU (aa 2) ?_ ag;refine aU (aa 3) ?_ ag;refine aU (aE (eS (aa 4) (gi) (gj (aa 0)))) ?_ aS;refine aU (aa 1) ?_ ag;exact ai)))⟩))))))))))
end
section
variable {P:ee}{w:eM}{K:dV}{mg:Str->Option aC}{base:fg}
theorem wY{f:dt}{X:fc}(F:Fun K "need_map" "need_map" (top 33) f X)(S:mg "need_map"=ar (.ref f))(T:Txt K mg)(Z:DefX P w K mg base 8 "map_holds" ["one","other","thing"] cO):DefX P w K mg base 9 "need_map" ["one","other","thing"] fV:=
 lh (m:=qU) F S (F.binds fun _ _ _ _ _ _ us Y=>match us,Y with|[_,_,_],_=>rfl) wQ rfl fun R A outer s H E U=>
  aJ (cy (fD (eF (aE (de Z (U.mono (by decide)) cb.pass (af (aa 0) (af (aa 1) (af (aa 2) (ai) ag) ag) ag))))) (aJ (vV cb rfl T.err (by decide) (by decide) (af (nL) (ai) aD))) (bF))
end
section
variable {P:ee}{w:eM}{K:dV}{mg:Str->Option aC}{base:fg}
theorem yw{f:dt}{S:fc}(F:Fun K "tie_map" "tie_map" (top 34) f S)(R:mg "tie_map"=ar (.ref f))(T:Txt K mg)(Z:DefX P w K mg base 1 "ties_reached" ["web","places"] cV)(Y:DefX P w K mg base 9 "need_map" ["one","other","thing"] fV):DefX P w K mg base 10 "tie_map" ["one","other","places"] cw:=
 lh (m:=sY) F R (F.binds fun _ _ _ _ _ _ us U=>match us,U with|[_,_,_],_=>rfl) yr rfl fun Q A outer s H E X=>
  aA (dD (aE (de Y (X.mono (by decide)) cb.pass (af (aa 0) (af (aa 1) (af (aa 2) (ai) ag) ag) ag)))) (aJ (a8 (eT T.b_tuple (aE (uF (fO (t:=jU) (m:=jV) (nU (Nc:=["tie","other"]) (js:=[none,ar 1]) (au (top 34)) ["one","other","places"] (fun _=>rfl) rfl (by decide+kernel)) rfl (jL (aE (aK Z (X.mono (by decide)) (af (aa 0) (af (aa 2) (ai) ag) ag)))) (fun C ex s2 O=>⟨ba 0 (show(["tie","other"]:List Str).Nodup by decide+kernel),gS,wk (gK X) (aM (aa 1) (aB)) (aa 0)⟩)))))))
end
section
variable {P:ee}{w:eM}{K:dV}{mg:Str->Option aC}{base:fg}
theorem pF{f:dt}{Y:fc}(F:Fun K "_law_refused" "_law_refused" (top 38) f Y)(U:mg "_law_refused"=ar (.ref f))(T:Txt K mg):RefX P w K mg 12 11 "_law_refused" ["_law_call"] bf:=
 CL (m:=gz) F U (F.binds fun _ _ _ _ _ _ us Z=>match us,Z with|[_],_=>rfl) cg rfl fun base G a Q ql ds vs mm L S A outer s H E X=>
  aA (bj 1 cg.nd (gG) (hs:=oK)) (aA (HD rfl rfl L (X.mono (by decide)) cg.nd T.err G rfl (.inl rfl) rfl rfl rfl rfl rfl) (aA (bj 3 cg.nd (aE (bE (af (fw T.err (by decide) G T.b_isinstance (aa 1)) (af (fw T.err (by decide) G T.b_isinstance (aa 1)) (af (fw T.err (by decide) G T.b_isinstance (aa 1)) (ai) aY) aY) aY))) (hs:=iw)) (aA (bj 3 cg.nd (aE (b7 (aa 3) (aE (bE (af (fw T.err (by decide) G T.b_isinstance (aa 1)) (af (fw T.err (by decide) G T.b_isinstance (aa 1)) (af (fw T.err (by decide) G T.b_isinstance (aa 1)) (ai) aY) aY) aY))))) (hs:=df)) (aA (bj 3 cg.nd (aE (b7 (aa 3) (aE (bE (af (fw T.err (by decide) G T.b_isinstance (aa 1)) (af (fw T.err (by decide) G T.b_isinstance (aa 1)) (af (fw T.err (by decide) G T.b_isinstance (aa 1)) (ai) aY) aY) aY))))) (hs:=df)) (aA (bj 3 cg.nd (aE (b7 (aa 3) (aE (bE (af (fw T.err (by decide) G T.b_isinstance (aa 1)) (af (fw T.err (by decide) G T.b_isinstance (aa 1)) (af (fw T.err (by decide) G T.b_isinstance (aa 1)) (ai) aY) aY) aY))))) (hs:=df)) (aA (bj 3 cg.nd (aE (b7 (aa 3) (aE (bE (af (fw T.err (by decide) G T.b_isinstance (aa 1)) (ai) aY))))) (hs:=df)) (aA (cy (fD (eF (EI T.err T.b_isinstance T.b_ValueError (aa 1)))) (aJ (a8 (gG))) (bF)) (aJ (a8 (aE (fO (t:=eO) (m:=eP) (nU (Nc:=["_law_k","_law_marks"]) (js:=[none,ar 3]) (au (top 38)) ["_law_call","_law_error","e","_law_marks"] (fun _=>rfl) rfl (by decide+kernel)) rfl (fj T.b_range (aB)) (fun C ex s2 R=>⟨ba 0 (show(["_law_k","_law_marks"]:List Str).Nodup by decide+kernel),uf (eF (aM (aa 1) (aa 0))),aa 0⟩))))))))))))
end
section
variable {P:ee}{w:eM}{K:dV}{mg:Str->Option aC}{base:fg}
theorem nB{f:dt}{S:fc}(F:Fun K "_law_too_great" "_law_too_great" (top 40) f S)(R:mg "_law_too_great"=ar (.ref f))(T:Txt K mg)(Z:RefX P w K mg 12 11 "_law_refused" ["_law_call"] bf)(bI:∀f c es,bf f c es=aW c es)(Y:∀base,Mod K mg base->DefX P w K mg base 7 "_law_same" ["_law_found","_law_due"] di):RefX P w K mg 13 11 "_law_too_great" ["_law_call","_law_many","_law_most"] bz:=
 CL (m:=fB) F R (F.binds fun _ _ _ _ _ _ us U=>match us,U with|[_,_,_],_=>rfl) gE rfl fun base G a O ql ds vs mm L Q A outer s H E X=>
  aA (bj 3 gE.nd (gG) (hs:=oK)) (aA (E5 (cx:="TooGreat") (by decide) rfl rfl L (X.mono (by decide)) gE.nd T.err G rfl (.inl rfl) rfl rfl rfl rfl rfl) (aA (cy (ue (mJ (Ju (aa 3) (gG)) (lX (i6 (gK X) (aE (E6 Z bI G L (X.mono (by decide)) (aa 0) (ai))) (aE (bE (af (aB) (ai) aD))))))) (aJ (a8 (dF))) (bF)) (aJ (a8 (aE (aK (Y _ G) (X.mono (by decide)) (af (aE (bE (af (EZ T.err T.dk (aa 3)) (af (E1 T.err T.dk (aa 3)) (ai) m8) m8))) (af (aE (bE (af (aa 1) (af (aa 2) (ai) ag) ag))) (ai) m5) m5)))))))
end
section
variable {P:ee}{w:eM}{K:dV}{mg:Str->Option aC}{base:fg}
theorem j4{f c v:dt}{r:fc}(F:Fun K "_law_refusals_right" "_law_refusals_right" (top 54) f r)(q:mg "_law_refusals_right"=ar (.ref f))(T:Txt K mg)(G:Mod K mg base)(B:BaseL K mg base)(TI:qG K)(t:pb K f' "_law_refusals_right"=ar (ar (.ref f)))(Q:mv K "_law_refusals_right"=ar (c,v))(Y:∀base,Mod K mg base->DefX P w K mg base 10 "tie_map" ["one","other","places"] cw)(U:∀base,Mod K mg base->DefX P w K mg base 1 "_law_take" ["_law_state_here","_law_many"] aw)(S:∀base,Mod K mg base->DefX P w K mg base 2 "_law_bad_web" ["_law_state_here"] eZ)(X:RefX P w K mg 12 11 "_law_refused" ["_law_call"] bf)(bI:∀f c es,bf f c es=aW c es)(Z:RefX P w K mg 13 11 "_law_too_great" ["_law_call","_law_many","_law_most"] bz)(eQ:∀f c es,bz f c es=bN c es):DefX P w K mg base 14 "_law_refusals_right" ["_law_state_here","_law_web_here"] bt:=
 E9 (m:=eJ) F q (F.binds fun _ _ _ _ _ _ us u=>match us,u with|[_,_],_=>rfl) cN rfl t Q fun A outer s H E L=>
  aA (bj 2 cN.nd (aE (aK (S _ G) (L.mono (by decide)) (af (aa 0) (ai) ag))) (hs:=fx)) (aA (E8 (kq (cF (af (cF (af (b7 (aB) (aE (aK (U _ G) (L.mono (by decide)) (af (aa 0) (af (aB) (ai) aD) ag)))) (af (dU 6 rfl) (ai) bq) eU)) (af (cF (af (b7 (aB) (aE (aK (U _ G) (L.mono (by decide)) (af (aa 0) (af (aB) (ai) aD) ag)))) (af (dU 6 rfl) (ai) bq) eU)) (ai) bq) bq)) (jh rfl (bw (ba 3 cN.nd) (bw (ba 4 cN.nd) (fN)))))) (aA (cy (i6 (gK L) (aE (qI (ql:="_law_refusals_right.<locals>.<lambda>") (m:=du) (xl:="_law_refusals_right") X bI (L.mono (by decide)) (fun _=>rfl) (by decide) Q rfl rfl rfl B TI rfl (CG (N3:=["_law_bad","_law_great"]) (js:=[2,3]) (au (top 54)) ["_law_state_here","_law_web_here","_law_bad","_law_great","_law_greater"] (fun _=>rfl) rfl (by decide+kernel)) (ai) (fun _ _ _ _=>rfl) (fun O J f2 z I y R s2 x C N=>aE (de (Y _ J) (N.mono (by decide)) iL.pass (af (aa 0) (af (aa 1) (af (gG) (ai) aD) ag) ag))))) (aE (bE (af (aB) (ai) aD)))) (aJ (a8 (dF))) (bF)) (aA (cy (i6 (gK L) (aE (qI (ql:="_law_refusals_right.<locals>.<lambda>") (m:=dv) (xl:="_law_refusals_right") X bI (L.mono (by decide)) (fun _=>rfl) (by decide) Q rfl rfl rfl B TI rfl (CG (N3:=["_law_great","_law_bad"]) (js:=[3,2]) (au (top 54)) ["_law_state_here","_law_web_here","_law_bad","_law_great","_law_greater"] (fun _=>rfl) rfl (by decide+kernel)) (ai) (fun _ _ _ _=>rfl) (fun O J f2 z I y R s2 x C N=>aE (de (Y _ J) (N.mono (by decide)) iL.pass (af (aa 0) (af (aa 1) (af (gG) (ai) aD) ag) ag))))) (aE (bE (af (aB) (ai) aD)))) (aJ (a8 (dF))) (bF)) (aA (cy (fD (eF (aE (qI (ql:="_law_refusals_right.<locals>.<lambda>") (m:=dw) (xl:="_law_refusals_right") Z eQ (L.mono (by decide)) (fun _=>rfl) (by decide) Q rfl rfl rfl B TI rfl (CG (N3:=["_law_great","_law_greater"]) (js:=[3,4]) (au (top 54)) ["_law_state_here","_law_web_here","_law_bad","_law_great","_law_greater"] (fun _=>rfl) rfl (by decide+kernel)) (af (aM (aa 3) (aB)) (af (aB) (ai) aD) aS) (fun _ _ _ _=>rfl) (fun O J f2 z I y R s2 x C N=>aE (de (Y _ J) (N.mono (by decide)) iL.pass (af (aa 0) (af (aa 1) (af (gG) (ai) aD) ag) ag))))))) (aJ (a8 (dF))) (bF)) (aJ (a8 (aE (qI (ql:="_law_refusals_right.<locals>.<lambda>") (m:=dy) (xl:="_law_refusals_right") Z eQ (L.mono (by decide)) (fun _=>rfl) (by decide) Q rfl rfl rfl B TI rfl (CG (N3:=["_law_web_here","_law_greater"]) (js:=[1,4]) (au (top 54)) ["_law_state_here","_law_web_here","_law_bad","_law_great","_law_greater"] (fun _=>rfl) rfl (by decide+kernel)) (af (aM (aa 4) (aB)) (af (aB) (ai) aD) aS) (fun _ _ _ _=>rfl) (fun O J f2 z I y R s2 x C N=>aE (de (Y _ J) (N.mono (by decide)) iL.pass (af (aa 0) (af (aa 1) (af (gG) (ai) aD) ag) ag)))))))))))
end
theorem Bd{P:ee}{w:eM}{K:dV}{S:Str->Option aC}{base:fg}{f c r:dt}{u:fc}(F:Fun K "law" "law" (top 55) f u)(T:Txt K S)(G:Mod K S base)(l:BaseL K S base)(TI:qG K)(p:pb K f' "law"=ar (ar (.ref f)))(z:mv K "law"=ar (c,r))(R:∀base,Mod K S base->DefX P w K S base 10 "tie_map" ["one","other","places"] cw)(U:RefX P w K S 12 11 "_law_refused" ["_law_call"] bf)(bI:∀f c es,bf f c es=aW c es)(J:∀base,Mod K S base->DefX P w K S base 7 "_law_same" ["_law_found","_law_due"] di)(O:∀base,Mod K S base->DefX P w K S base 2 "_law_state" ["_law_script","_law_k"] gu)(L:∀base,Mod K S base->DefX P w K S base 2 "_law_mixed" ["_law_state_here","_law_many"] bM)(N:∀base,Mod K S base->DefX P w K S base 1 "_law_named" ["_law_web_here","_law_names"] cM)(I:∀base,Mod K S base->DefX P w K S base 4 "_law_web" ["_law_state_here","_law_most"] gM)(Y:∀base,Mod K S base->DefX P w K S base 2 "_law_bent_map" ["_law_state_here","_law_thing"] c8)(Q:∀base,Mod K S base->DefX P w K S base 2 "_law_is_map" ["_law_one","_law_other","_law_thing"] eE)(X:∀base,Mod K S base->DefX P w K S base 1 "_law_tie_map" ["_law_one","_law_other","_law_places"] dJ)(Z:DefX P w K S base 14 "_law_refusals_right" ["_law_state_here","_law_web_here"] bt):FnOk P w K S base (lg P w) 15 f u ["_law_script"] (CA K sZ):=
 CK (m:=Df) F kQ rfl p z fun A outer s H E B=>
  aA (iH (b:=kM) MZ rfl (fj T.b_range (lY rfl T.b_max (af (aB) (af (lZ rfl T.b_min (af (eI T.b_len (aa 0)) (af (aB) (ai) aD) aY)) (ai) aY) aD))) (ba 1 kQ.nd) (aA (bj 2 kQ.nd (aK (O _ G) (B.mono (by decide)) (af (aa 0) (af (aa 1) (ai) ag) ag)) (hs:=fx)) (aA (bj 3 kQ.nd (aE (aK (I _ G) (B.mono (by decide)) (af (aa 2) (af (aB) (ai) aD) ag))) (hs:=fx)) (aA (bj 4 kQ.nd (aE (aK (L _ G) (B.mono (by decide)) (af (aa 2) (af (aM (aa 3) (aB)) (ai) aS) ag))) (hs:=fx)) (aA (bj 5 kQ.nd (aE (aK (N _ G) (B.mono (by decide)) (af (aa 3) (af (aa 4) (ai) ag) ag))) (hs:=fx)) (aA (bj 6 kQ.nd (b7 (aE (bE (af (aa 4) (ai) ag))) (aE (fO (t:=ni) (m:=nj) (nU (Nc:=["_law_turn","_law_state_here","_law_names"]) (js:=[none,ar 2,ar 4]) (au (top 55)) ["_law_script","_law_k","_law_state_here","_law_one","_law_names","_law_other","_law_things","_law_thing"] (fun _=>rfl) rfl (by decide+kernel)) rfl (fj T.b_range (aB)) (fun C ex s2 o=>⟨ba 0 (show(["_law_turn","_law_state_here","_law_names"]:List Str).Nodup by decide+kernel),gS,aE (aK (Y _ G) (B.mono (by decide)) (af (aa 1) (af (aa 2) (ai) ag) ag))⟩)))) (hs:=df)) (aA (cy (BW (aM (aa 3) (aB)) (aB)) (aJ (dD (fY (aa 6) (aE (b7 (aE (eS (aa 4) (gj (aB)) (gi))) (aE (eS (aa 4) (gi) (gj (aB))))))))) (bF)) (aA (iH (b:=nk) MZ rfl (jL (aa 6)) (ba 7 kQ.nd) (aJ (cy (fD (eF (aE (aK (Q _ G) (B.mono (by decide)) (af (aa 3) (af (aa 5) (af (aa 7) (ai) ag) ag) ag))))) (aJ (cy (i6 (gK B) (aE (qI (ql:="law.<locals>.<lambda>") (m:=qV) (xl:="law") U bI (B.mono (by decide)) (fun _=>rfl) (by decide) z rfl rfl rfl l TI rfl (CG (N3:=["_law_one","_law_other","_law_thing"]) (js:=[3,5,7]) (au (top 55)) ["_law_script","_law_k","_law_state_here","_law_one","_law_names","_law_other","_law_things","_law_thing"] (fun _=>rfl) rfl (by decide+kernel)) (ai) (fun _ _ _ _=>rfl) (fun x q f2 j n i y s2 o k v=>aE (de (R _ q) (v.mono (by decide)) iL.pass (af (aa 0) (af (aa 1) (af (aa 2) (ai) ag) ag) ag))))) (aE (bE (af (aB) (ai) aD)))) (aJ (a8 (dF))) (bF))) (aJ (cy (fD (eF (aE (aK (J _ G) (B.mono (by decide)) (af (aE (aK (R _ G) (B.mono (by decide)) (af (aa 3) (af (aa 5) (af (aa 7) (ai) ag) ag) ag))) (af (aE (aK (X _ G) (B.mono (by decide)) (af (aa 3) (af (aa 5) (af (aa 7) (ai) ag) ag) ag))) (ai) aY) aY))))) (aJ (a8 (dF))) (bF)))))) (aJ (cy (fD (eF (aE (aK Z (B.mono (by decide)) (af (aa 2) (af (aa 3) (ai) ag) ag))))) (aJ (a8 (dF))) (bF))))))))))) (aJ (a8 (dF)))
def Gc:Stmt:=JG (top 14)
theorem FH:FnScope ["self","many","most"] ["self","many","most"] (au Gc):=⟨rfl,rfl,rfl,by decide+kernel,rfl,by decide+kernel,by decide+kernel⟩
abbrev lP:Program:=PySem.Challenge.rw_tiewebs_k60_tie_maps.prog
abbrev kW(w:eM):W.Frag:=KH.K0 w.params
theorem fk{K:dV}{f c:dt}{m:aC}(x q:Str)(Z:p4)(l:K.lookup f=ar ⟨.type "function",none,.func (D_ x q (i4 Z) (dC Z) (au Z) .none .none .none m none (.ref c) .none), #[]⟩)(h:QN K (.ref c) q=bc)(k:z3 K (.ref f)=bc):Fun K x q Z f (D_ x q (i4 Z) (dC Z) (au Z) .none .none .none m none (.ref c) .none):=GY l h k
abbrev nK(w:eM)(x:Str):Option (Option aC):=pb (kW w) f' x
theorem LM(w:eM)(Y:Str->Option aC)(fa:dt)(h:fg)(X:(kW w).In h)(G:h.Ns f' Y)(f3:Y "law"=ar (.ref fa)):∃fd:fc,(∀(s:b_) (u:aC),GB s fd ⟨[u],[]⟩ [("_law_script",u)])/\∀base:fg,Mod (kW w) Y base->BaseL (kW w) Y base->FnOk lP w (kW w) Y base (lg lP w) 15 fa fd ["_law_script"] (CA (kW w) sZ):=by
 have aG:nK w "TooGreat"=ar (ar (.ref 188)):=by kernel_rfl
 have a0:lj (kW w) 188 185=true:=by kernel_rfl
 have FG:=@fk (kW w) 185 184 (KH.zs "tiewebs.errors" 187) "__init__" "TooGreat.__init__" Gc (by kernel_rfl) (by kernel_rfl) (by kernel_rfl)
 have a6:nK w "is_whole"=ar (ar (.ref 197)):=by kernel_rfl
 have b2:=@fk (kW w) 197 196 (KH.zs "tiewebs.webs" 426) "is_whole" "is_whole" (top 17) (by kernel_rfl) (by kernel_rfl) (by kernel_rfl)
 have h3:nK w "is_pair"=ar (ar (.ref 204)):=by kernel_rfl
 have c7:=@fk (kW w) 204 203 (KH.zs "tiewebs.webs" 426) "is_pair" "is_pair" (top 18) (by kernel_rfl) (by kernel_rfl) (by kernel_rfl)
 have h8:nK w "is_place"=ar (ar (.ref 211)):=by kernel_rfl
 have k2:=@fk (kW w) 211 210 (KH.zs "tiewebs.webs" 426) "is_place" "is_place" (top 19) (by kernel_rfl) (by kernel_rfl) (by kernel_rfl)
 have d8:nK w "is_tie"=ar (ar (.ref 218)):=by kernel_rfl
 have h1:=@fk (kW w) 218 217 (KH.zs "tiewebs.webs" 426) "is_tie" "is_tie" (top 20) (by kernel_rfl) (by kernel_rfl) (by kernel_rfl)
 have d5:nK w "is_rising"=ar (ar (.ref 223)):=by kernel_rfl
 have e4:=@fk (kW w) 223 222 (KH.zs "tiewebs.webs" 426) "is_rising" "is_rising" (top 21) (by kernel_rfl) (by kernel_rfl) (by kernel_rfl)
 have h9:nK w "is_web"=ar (ar (.ref 228)):=by kernel_rfl
 have j2:=@fk (kW w) 228 227 (KH.zs "tiewebs.webs" 426) "is_web" "is_web" (top 22) (by kernel_rfl) (by kernel_rfl) (by kernel_rfl)
 have e2:nK w "need_web"=ar (ar (.ref 235)):=by kernel_rfl
 have g4:=@fk (kW w) 235 234 (KH.zs "tiewebs.webs" 426) "need_web" "need_web" (top 23) (by kernel_rfl) (by kernel_rfl) (by kernel_rfl)
 have k7:nK w "need_few_places"=ar (ar (.ref 242)):=by kernel_rfl
 have c4:=@fk (kW w) 242 241 (KH.zs "tiewebs.webs" 426) "need_few_places" "need_few_places" (top 24) (by kernel_rfl) (by kernel_rfl) (by kernel_rfl)
 have b3:nK w "are_tied"=ar (ar (.ref 249)):=by kernel_rfl
 have e3:=@fk (kW w) 249 248 (KH.zs "tiewebs.webs" 426) "are_tied" "are_tied" (top 25) (by kernel_rfl) (by kernel_rfl) (by kernel_rfl)
 have d0:nK w "need_mapped"=ar (ar (.ref 256)):=by kernel_rfl
 have g7:=@fk (kW w) 256 255 (KH.zs "tiewebs.maps" 498) "need_mapped" "need_mapped" (top 28) (by kernel_rfl) (by kernel_rfl) (by kernel_rfl)
 have g8:nK w "goes_on"=ar (ar (.ref 261)):=by kernel_rfl
 have h4:=@fk (kW w) 261 260 (KH.zs "tiewebs.maps" 498) "goes_on" "goes_on" (top 29) (by kernel_rfl) (by kernel_rfl) (by kernel_rfl)
 have b1:nK w "ties_reached"=ar (ar (.ref 266)):=by kernel_rfl
 have k3:=@fk (kW w) 266 265 (KH.zs "tiewebs.maps" 498) "ties_reached" "ties_reached" (top 30) (by kernel_rfl) (by kernel_rfl) (by kernel_rfl)
 have h6:nK w "map_holds"=ar (ar (.ref 271)):=by kernel_rfl
 have b0:=@fk (kW w) 271 270 (KH.zs "tiewebs.maps" 498) "map_holds" "map_holds" (top 31) (by kernel_rfl) (by kernel_rfl) (by kernel_rfl)
 have c3:nK w "need_map"=ar (ar (.ref 278)):=by kernel_rfl
 have k5:=@fk (kW w) 278 277 (KH.zs "tiewebs.onlies" 528) "need_map" "need_map" (top 33) (by kernel_rfl) (by kernel_rfl) (by kernel_rfl)
 have c0:nK w "tie_map"=ar (ar (.ref 283)):=by kernel_rfl
 have d1:=@fk (kW w) 283 282 (KH.zs "tiewebs.onlies" 528) "tie_map" "tie_map" (top 34) (by kernel_rfl) (by kernel_rfl) (by kernel_rfl)
 have c2:nK w "_law_take"=ar (ar (.ref 290)):=by kernel_rfl
 have e1:=@fk (kW w) 290 289 (KH.zs "law_tiewebs_k60_tie_maps" 545) "_law_take" "_law_take" (top 36) (by kernel_rfl) (by kernel_rfl) (by kernel_rfl)
 have k8:nK w "_law_bad_web"=ar (ar (.ref 297)):=by kernel_rfl
 have k1:=@fk (kW w) 297 296 (KH.zs "law_tiewebs_k60_tie_maps" 545) "_law_bad_web" "_law_bad_web" (top 37) (by kernel_rfl) (by kernel_rfl) (by kernel_rfl)
 have i1:nK w "_law_refused"=ar (ar (.ref 302)):=by kernel_rfl
 have f6:=@fk (kW w) 302 301 (KH.zs "law_tiewebs_k60_tie_maps" 545) "_law_refused" "_law_refused" (top 38) (by kernel_rfl) (by kernel_rfl) (by kernel_rfl)
 have d3:nK w "_law_same"=ar (ar (.ref 307)):=by kernel_rfl
 have h2:=@fk (kW w) 307 306 (KH.zs "law_tiewebs_k60_tie_maps" 545) "_law_same" "_law_same" (top 39) (by kernel_rfl) (by kernel_rfl) (by kernel_rfl)
 have d6:nK w "_law_too_great"=ar (ar (.ref 314)):=by kernel_rfl
 have k0:=@fk (kW w) 314 313 (KH.zs "law_tiewebs_k60_tie_maps" 545) "_law_too_great" "_law_too_great" (top 40) (by kernel_rfl) (by kernel_rfl) (by kernel_rfl)
 have i0:nK w "_law_cell_at"=ar (ar (.ref 321)):=by kernel_rfl
 have b6:=@fk (kW w) 321 320 (KH.zs "law_tiewebs_k60_tie_maps" 545) "_law_cell_at" "_law_cell_at" (top 41) (by kernel_rfl) (by kernel_rfl) (by kernel_rfl)
 have d7:nK w "_law_state"=ar (ar (.ref 328)):=by kernel_rfl
 have a4:=@fk (kW w) 328 327 (KH.zs "law_tiewebs_k60_tie_maps" 545) "_law_state" "_law_state" (top 42) (by kernel_rfl) (by kernel_rfl) (by kernel_rfl)
 have k6:nK w "_law_drawn"=ar (ar (.ref 333)):=by kernel_rfl
 have b4:=@fk (kW w) 333 332 (KH.zs "law_tiewebs_k60_tie_maps" 545) "_law_drawn" "_law_drawn" (top 43) (by kernel_rfl) (by kernel_rfl) (by kernel_rfl)
 have h7:nK w "_law_made"=ar (ar (.ref 340)):=by kernel_rfl
 have l0:=@fk (kW w) 340 339 (KH.zs "law_tiewebs_k60_tie_maps" 545) "_law_made" "_law_made" (top 44) (by kernel_rfl) (by kernel_rfl) (by kernel_rfl)
 have a5:nK w "_law_mixed"=ar (ar (.ref 347)):=by kernel_rfl
 have i2:=@fk (kW w) 347 346 (KH.zs "law_tiewebs_k60_tie_maps" 545) "_law_mixed" "_law_mixed" (top 45) (by kernel_rfl) (by kernel_rfl) (by kernel_rfl)
 have c6:nK w "_law_few_ties"=ar (ar (.ref 354)):=by kernel_rfl
 have e5:=@fk (kW w) 354 353 (KH.zs "law_tiewebs_k60_tie_maps" 545) "_law_few_ties" "_law_few_ties" (top 46) (by kernel_rfl) (by kernel_rfl) (by kernel_rfl)
 have l1:nK w "_law_named"=ar (ar (.ref 361)):=by kernel_rfl
 have j0:=@fk (kW w) 361 360 (KH.zs "law_tiewebs_k60_tie_maps" 545) "_law_named" "_law_named" (top 47) (by kernel_rfl) (by kernel_rfl) (by kernel_rfl)
 have f5:nK w "_law_web"=ar (ar (.ref 366)):=by kernel_rfl
 have e0:=@fk (kW w) 366 365 (KH.zs "law_tiewebs_k60_tie_maps" 545) "_law_web" "_law_web" (top 48) (by kernel_rfl) (by kernel_rfl) (by kernel_rfl)
 have e7:nK w "_law_bent_map"=ar (ar (.ref 373)):=by kernel_rfl
 have c1:=@fk (kW w) 373 372 (KH.zs "law_tiewebs_k60_tie_maps" 545) "_law_bent_map" "_law_bent_map" (top 49) (by kernel_rfl) (by kernel_rfl) (by kernel_rfl)
 have k4:nK w "_law_whole"=ar (ar (.ref 380)):=by kernel_rfl
 have h5:=@fk (kW w) 380 379 (KH.zs "law_tiewebs_k60_tie_maps" 545) "_law_whole" "_law_whole" (top 50) (by kernel_rfl) (by kernel_rfl) (by kernel_rfl)
 have c5:nK w "_law_tied"=ar (ar (.ref 387)):=by kernel_rfl
 have e8:=@fk (kW w) 387 386 (KH.zs "law_tiewebs_k60_tie_maps" 545) "_law_tied" "_law_tied" (top 51) (by kernel_rfl) (by kernel_rfl) (by kernel_rfl)
 have g6:nK w "_law_is_map"=ar (ar (.ref 392)):=by kernel_rfl
 have b5:=@fk (kW w) 392 391 (KH.zs "law_tiewebs_k60_tie_maps" 545) "_law_is_map" "_law_is_map" (top 52) (by kernel_rfl) (by kernel_rfl) (by kernel_rfl)
 have e6:nK w "_law_tie_map"=ar (ar (.ref 399)):=by kernel_rfl
 have j1:=@fk (kW w) 399 398 (KH.zs "law_tiewebs_k60_tie_maps" 545) "_law_tie_map" "_law_tie_map" (top 53) (by kernel_rfl) (by kernel_rfl) (by kernel_rfl)
 have a:nK w "_law_refusals_right"=ar (ar (.ref 406)):=by kernel_rfl
 have g5:=@fk (kW w) 406 405 (KH.zs "law_tiewebs_k60_tie_maps" 545) "_law_refusals_right" "_law_refusals_right" (top 54) (by kernel_rfl) (by kernel_rfl) (by kernel_rfl)
 have a3:nK w "law"=ar (ar (.ref 411)):=by kernel_rfl
 have d2:=@fk (kW w) 411 410 (KH.zs "law_tiewebs_k60_tie_maps" 545) "law" "law" (top 55) (by kernel_rfl) (by kernel_rfl) (by kernel_rfl)
 obtain⟨⟨ct,Pt⟩,b⟩:=MO.mp (show(mv (kW w) "law").isSome=bc by kernel_rfl)
 obtain⟨⟨l2,l7⟩,c⟩:=MO.mp (show(mv (kW w) "_law_refusals_right").isSome=bc by kernel_rfl)
 have e:=f3.symm.trans (Mb X G a3);cases e;have T:Txt (kW w) Y:=⟨by kernel_rfl,by kernel_rfl,MA X G (by kernel_rfl),MA X G (by kernel_rfl),MA X G (by kernel_rfl),MA X G (by kernel_rfl),MA X G (by kernel_rfl),MA X G (by kernel_rfl),MA X G (by kernel_rfl),MA X G (by kernel_rfl),MA X G (by kernel_rfl),MA X G (by kernel_rfl),MA X G (by kernel_rfl),MA X G (by kernel_rfl),MA X G (by kernel_rfl),MA X G (by kernel_rfl),MA X G (by kernel_rfl),⟨500,Mb X G (by kernel_rfl)⟩,⟨428,Mb X G (by kernel_rfl)⟩⟩
 have GR:∀base,GrX lP w (kW w) Y base:=fun base=>C6 FG X T.err aG a0 FH (by decide+kernel) (FG.binds fun _ _ _ _ _ _ us hl=>match us,hl with|[_,_,_],_=>rfl) rfl
 refine⟨D_ "law" "law" (i4 (top 55)) (dC (top 55)) (au (top 55)) .none .none .none (KH.zs "law_tiewebs_k60_tie_maps" 545) none (.ref 410) .none,fun s v=>.of_eq rfl,fun base GM BL=>?_⟩;have H:∀base,Mod (kW w) Y base->DefX lP w (kW w) Y base 1 "is_whole" ["thing"] cU:=fun base U=>wR b2 (Mb X G a6) T;have x:∀base,Mod (kW w) Y base->DefX lP w (kW w) Y base 1 "is_pair" ["thing"] dH:=fun base U=>yt c7 (Mb X G h3) T;have l:∀base,Mod (kW w) Y base->DefX lP w (kW w) Y base 1 "is_rising" ["things"] fZ:=fun base U=>vg e4 (Mb X G d5) T;have j:∀base,Mod (kW w) Y base->DefX lP w (kW w) Y base 1 "are_tied" ["web","one","other"] eW:=fun base U=>wU e3 (Mb X G b3) T;have A:∀base,Mod (kW w) Y base->DefX lP w (kW w) Y base 1 "ties_reached" ["web","places"] cV:=fun base U=>pB k3 (Mb X G b1) T;have Z:∀base,Mod (kW w) Y base->DefX lP w (kW w) Y base 1 "_law_take" ["_law_state_here","_law_many"] aw:=fun base U=>vh e1 (Mb X G c2) T;have C:∀base,Mod (kW w) Y base->DefX lP w (kW w) Y base 1 "_law_cell_at" ["_law_script","_law_k"] dI:=fun base U=>pC b6 (Mb X G i0) T;have n:∀base,Mod (kW w) Y base->DefX lP w (kW w) Y base 1 "_law_made" ["_law_web_here"] f7:=fun base U=>vi l0 (Mb X G h7) T;have P:∀base,Mod (kW w) Y base->DefX lP w (kW w) Y base 1 "_law_named" ["_law_web_here","_law_names"] cM:=fun base U=>sd j0 (Mb X G l1) T;have p:∀base,Mod (kW w) Y base->DefX lP w (kW w) Y base 1 "_law_whole" ["_law_thing"] gp:=fun base U=>se h5 (Mb X G k4) T;have m:∀base,Mod (kW w) Y base->DefX lP w (kW w) Y base 1 "_law_tied" ["_law_web_here","_law_one","_law_other"] dP:=fun base U=>vj e8 (Mb X G c5) T;have E:∀base,Mod (kW w) Y base->DefX lP w (kW w) Y base 1 "_law_tie_map" ["_law_one","_law_other","_law_places"] dJ:=fun base U=>pD j1 (Mb X G e6) T;have F:∀base,Mod (kW w) Y base->DefX lP w (kW w) Y base 2 "is_place" ["many","thing"] eY:=fun base U=>wV k2 (Mb X G h8) T (H base U);have g:∀base,Mod (kW w) Y base->DefX lP w (kW w) Y base 2 "goes_on" ["one","other","start","place"] iF:=fun base U=>yu h4 (Mb X G g8) T (j base U);have B:∀base,Mod (kW w) Y base->DefX lP w (kW w) Y base 2 "_law_bad_web" ["_law_state_here"] eZ:=fun base U=>pE k1 (Mb X G k8) T (Z base U);have r:∀base,Mod (kW w) Y base->DefX lP w (kW w) Y base 2 "_law_state" ["_law_script","_law_k"] gu:=fun base U=>sf a4 (Mb X G d7) T (C base U);have q:∀base,Mod (kW w) Y base->DefX lP w (kW w) Y base 2 "_law_drawn" ["_law_state_here","_law_many","_law_often"] dg:=fun base U=>sg b4 (Mb X G k6) T (Z base U);have R:∀base,Mod (kW w) Y base->DefX lP w (kW w) Y base 2 "_law_mixed" ["_law_state_here","_law_many"] bM:=fun base U=>sh i2 (Mb X G a5) T (Z base U);have J:∀base,Mod (kW w) Y base->DefX lP w (kW w) Y base 2 "_law_bent_map" ["_law_state_here","_law_thing"] c8:=fun base U=>ou c1 (Mb X G e7) T (Z base U);have t:∀base,Mod (kW w) Y base->DefX lP w (kW w) Y base 2 "_law_is_map" ["_law_one","_law_other","_law_thing"] eE:=fun base U=>rF b5 (Mb X G g6) T (p base U) (m base U);have f:∀base,Mod (kW w) Y base->DefX lP w (kW w) Y base 3 "is_tie" ["many","thing"] kL:=fun base U=>Bb h1 (Mb X G d8) T (x base U) (F base U);have K:∀base,Mod (kW w) Y base->DefX lP w (kW w) Y base 3 "_law_few_ties" ["_law_state_here","_law_most"] cf:=fun base U=>oy e5 (Mb X G c6) T (Z base U) (R base U);have d:∀base,Mod (kW w) Y base->DefX lP w (kW w) Y base 4 "is_web" ["thing"] jC:=fun base U=>Bc j2 (Mb X G h9) T (H base U) (x base U) (f base U) (l base U);have k:∀base,Mod (kW w) Y base->DefX lP w (kW w) Y base 4 "_law_web" ["_law_state_here","_law_most"] gM:=fun base U=>wW e0 (Mb X G f5) T (Z base U) (q base U) (n base U) (R base U) (K base U) (P base U);have I:∀base,Mod (kW w) Y base->DefX lP w (kW w) Y base 5 "need_web" ["thing"] cH:=fun base U=>wX g4 (Mb X G e2) T (d base U);have O:∀base,Mod (kW w) Y base->DefX lP w (kW w) Y base 6 "need_few_places" ["web","most"] cD:=fun base U=>mw c4 (Mb X G k7) T (GR base) (I base U);have y:∀base,Mod (kW w) Y base->DefX lP w (kW w) Y base 7 "need_mapped" ["one","other"] bQ:=fun base U=>rG g7 (Mb X G d0) T (I base U) (O base U);have N:∀base,Mod (kW w) Y base->DefX lP w (kW w) Y base 7 "_law_same" ["_law_found","_law_due"] di:=fun base U=>vk h2 (Mb X G d3) T;have o:∀base,Mod (kW w) Y base->DefX lP w (kW w) Y base 8 "map_holds" ["one","other","thing"] cO:=fun base U=>vm b0 (Mb X G h6) T (F base U) (y base U) (g base U);have i:∀base,Mod (kW w) Y base->DefX lP w (kW w) Y base 9 "need_map" ["one","other","thing"] fV:=fun base U=>wY k5 (Mb X G c3) T (o base U);have z:∀base,Mod (kW w) Y base->DefX lP w (kW w) Y base 10 "tie_map" ["one","other","places"] cw:=fun base U=>yw d1 (Mb X G c0) T (A base U) (i base U);have S:RefX lP w (kW w) Y 12 11 "_law_refused" ["_law_call"] bf:=pF f6 (Mb X G i1) T;have L:RefX lP w (kW w) Y 13 11 "_law_too_great" ["_law_call","_law_many","_law_most"] bz:=nB k0 (Mb X G d6) T S bI N;have Q:DefX lP w (kW w) Y base 14 "_law_refusals_right" ["_law_state_here","_law_web_here"] bt:=j4 g5 (Mb X G a) T GM BL (CJ (show CI (kW w)=bc by kernel_rfl)) a c z Z B S bI L eQ
 exact Bd d2 T GM BL (CJ (show CI (kW w)=bc by kernel_rfl)) a3 b z S bI N r R P k J t E Q
end W
section
namespace W
open PySem PySem.Spec PyProof.Rows L2 S3 S4 S7
theorem Iq(K:dV)(H:Hp)(a:dt)(ns:List Int)(Y:TabsOk K H)(Z:DR K H a (ns.map V.int)):CA K sZ [.ref a] H (fun v _=>v= .bl bc) fun _ _ _=>False:=by
 obtain⟨d,T,e,hd⟩:=J4 (S:=[]) (ns:=ns);refine⟨[],[],[.ro (ns.map D.int)],⟨.nil,rfl,(fun k a xs h=>by cases h),Y⟩,.cons (.ro Z (mW ns)) .nil,?_⟩
 refine⟨.ok d,T,e,fun U R _ _=>?_⟩;subst hd;intro v X;cases X;rfl
theorem walk{l:Rz}{q:ee}{loose:List Str}{XP:(Str->Option aC)->fg->Prop}{YP:eM->fg->Prop}{d:RX}{K:PJ->dV}(S:l.most=ar 63)(Y:d.params.defaults=[])
  (T:∀(w:eM) (h:fg),YP w h->(K w.params).In h) (X:∀w:eM,RV (K w.params)=bc)
  (Z:∀(w:eM) (h:fg),YP w h->∀y∈cI,∀c Q,mv (K w.params) y=ar (c,Q)->Ql h c Q/\h.get? Q=ar (w_ #[]))
  (F:∀(w:eM) (mg:Str->Option aC) (fa:dt) (h:fg),(K w.params).In h->h.Ns f' mg->mg d.name=ar (.ref fa)->
   ∃fd:fc,(∀(s:b_) (u:aC),GB s fd ⟨[u],[]⟩ [("_law_script",u)])/\∀base:fg,Mod (K w.params) mg base->BaseL (K w.params) mg base->FnOk l.prog w (K w.params) mg base (lg l.prog w) 15 fa fd ["_law_script"] (CA (K w.params) sZ)):
  R6 q loose XP YP l.row.toRowW d [] (fun f vs=>PySem.call f vs):=
 CH (n:=63) (k:=15) (x:="_law_script") (sp:=fun w=>CA (K w.params) sZ) S (by decide) Y ⟨rfl,by decide,by decide⟩ T X Z F fun w H a ns _ R U=>Iq (K w.params) H a ns R U
end W
open PySem PySem.W PyProof.Rows
set_option maxRecDepth 100000 in
set_option maxHeartbeats 0 in
theorem PySem.Challenge.cw_tiewebs_k60_tie_maps_holds : PySem.Challenge.rw_tiewebs_k60_tie_maps.Holds := by
 w_on;o_law
 refine holds_open (q:=KH.vq) (loose:=[]) (Xt:=KH.Xt0) (XP:=XL KH.vq []) (Yf:=RK (P_ KH.K0 KH.as0 KH.as0_eq KH.ts0)) (Ya:=RL (P_ KH.K0 KH.as0 KH.as0_eq KH.ts0)) (YP:=Hook.says (P_ KH.K0 KH.as0 KH.as0_eq KH.ts0)) (N:=8310) KH.left0 (Hook.of (P_ KH.K0 KH.as0 KH.as0_eq KH.ts0)) (Hook.keeps (P_ KH.K0 KH.as0 KH.as0_eq KH.ts0)) (fun s e=>xl_of s (N9.mp e).1) XL.keeps (by rfl) (by rfl) (by rfl) (fun s e=>recFacts_of (N9.mp e).2) (by rfl) (by first|assumption|decide+kernel) (by decide+kernel) ⟨rfl,rfl,rfl,rfl,rfl,by decide+kernel⟩ ?hw ?hc
 case hw=>w_witness2
 refine W.walk (l:=PySem.Challenge.rw_tiewebs_k60_tie_maps) rfl rfl (fun w h Y=>PySem.W.km_in_of Y) ?nt (fun w h Y=>S7.K9 (w:=w) ?ck Y) W.LM
 case nt=>intro w;kernel_rfl
 case ck=>kernel_rfl
end
